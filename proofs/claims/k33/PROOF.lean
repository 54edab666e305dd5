import PyProof.Rows.All
import Wide.All
import OpenK.AllK
import Wide.FinOn
import HandS.ForMost
import HandS.More
import HandS.Wide
import HandS.WideBits
import HandS.TupAny
import HandS.TupMul
import HandS.Style
import HandS.RaiseMore
import KE.SortKeyHeap
import KE.KLam
import HandS.SortKw
import HandS.Lambda
import HandS.Nested
import HandS.EndTab
import HandS.Conv
import HandS.Defaults
import HandS.Zip
import HandS.Walk
import HandS.Comp
import HandS.Rev
import HandS.SetFor
import HandS.Strs
import HandS.Flow
import HandS.Head0
import HandS.Head1
import HandS.Head2
import HandS.HeadEnd
import HandS.HeadHook1
import HandS.HeadHook2
import HandS.HeadHook4
import PySem.Challenge.RW_beatferry_k33_trees_that_came
set_option Elab.async false
set_option linter.all false
set_option maxRecDepth 100000
set_option maxHeartbeats 4000000
namespace Bf
open PySem PySem.Spec PyProof.Rows L2

/-! ### defs whose calls stand under no repr -/
structure FnG (P : Program) (w : World) (K : PySem.W.Frag) (mg : Str → Option Value) (base : Heap) (k : Nat) (f : Addr) (fd : FuncData) (ps : List Str) (sp : Sp) : Prop where
  len : ∀ vs H Q E, sp vs H Q E → vs.length = ps.length
  go : ∀ (A : Around) (outer : List Env) (s : Shared) (H : Hp) (args : Args) (us : List Value) (vs : List V) (Q : VK) (E : XK), A.guards = some [] → Room k A →
    Env0 P w K mg base A outer s H → BindsTo s fd args (ps.zip us) → Vals vs us → sp vs H Q E → codeAny (model P w) A (.call (.ref f) args) (CR CX0 outer P w H s Q E) s

theorem fnG_of {P : Program} {w : World} {K : PySem.W.Frag} {mg : Str → Option Value} {base : Heap} {x qual : Str} {st : Stmt} {f : Addr} {fd : FuncData} {N ps : List Str} {k : Nat} {sp : Sp}
    (F : Fun K x qual st f fd) (S : FnScope N ps (defScope st)) (len : ∀ vs H Q E, sp vs H Q E → vs.length = ps.length)
    (body : ∀ (cdv : Value) (A : Around) (outer : List Env) (s : Shared) (H : Hp) (vs : List V) (Q : VK) (E : XK), (A.deeper (envOfC qual (defScope st) s.heap.objs.size f cdv)).guards = some [] →
      Room k (A.deeper (envOfC qual (defScope st) s.heap.objs.size f cdv)) → sp vs H Q E →
      ∃ t, PSs (cxOf CX0 P w K mg base N qual (defScope st) f cdv A outer s H E).nox (defBody st) t ∧ t { nx := fun _ H' => Q .non H', rt := Q } (start N vs) H) : FnG P w K mg base (k + 1) f fd ps sp := by
  obtain ⟨oc, od, kV, doc, pm, an, cdv, ct, osl, rfl, lk, hcd⟩ := F.ex
  refine ⟨len, fun B out s G args us vs Q E gd rm en hb rl hs => ?_⟩
  have ln := len _ _ _ _ hs
  have kx : K.In s.heap := en.mod.kin.keeps fun b o e => (en.bs b o e).1
  have nl : s.heap.NoLimit := en.mod.nolimit.keeps fun b o e => (en.bs b o e).1
  have kinds : ∀ y ∈ ps.zip us, (defScope st).names.lookup y.1 = some .local ∨
      ((defScope st).names.lookup y.1 = some .cell ∧ ((cellsFrom (s.heap.objs.size + 1) (defScope st).names []).lookup y.1).isSome = true) := fun ⟨n, v⟩ hy =>
    (S.par n (List.of_mem_zip hy).1).elim (fun q => .inl q) fun q => .inr ⟨q, PySem.W.cellsFrom_some _ _ _ (.inl q)⟩
  refine codeAny_call_function rm.depth (kx _ _ lk) rfl S.co S.gen rfl (PySem.W.codeRec_of kx hcd) (hb _ _ _ _ ?_)
  refine wpAny_newFunctionEnv_cells S.kind kinds fun env he s1 x1 => ?_
  subst he
  refine ⟨nl.keeps x1.toInCall.keep, codeAny_func ?_⟩
  obtain ⟨t, ht, hq⟩ := body cdv B out s G vs Q E gd (rm.deeper _) hs
  have J0 : Inv (cxOf CX0 P w K mg base N qual (defScope st) f cdv B out s G E) [] (start N vs) G s1 := inv_start S rm.hd en ln rl x1
  refine wpAny_mono (ht.nox.run [] s1 (start N vs) G _ J0 hq) (fun fl s' hs' => ?_) fun e s' hs' => hs'
  cases fl with
  | ret u => exact let ⟨v, _, H', J, rv, q⟩ := hs'; ⟨v, H', J.os, J.bare, J.base, J.hok, rv, q⟩
  | next => exact let ⟨_, H', J, q⟩ := hs'; ⟨V.non, H', J.os, J.bare, J.base, J.hok, rfl, q⟩
  | brk => exact let ⟨_, _, _, q⟩ := hs'; False.elim q
  | cont => exact let ⟨_, _, _, q⟩ := hs'; False.elim q

section
variable {X : Cx} {x : Str} {p pos : Pos} {e : Expr} {es : List Expr} {t : TA} {k : Nat} {f : Addr} {fd : FuncData} {ps : List Str} {sp : Sp} {ds : List Value} {dvs : List V} {E : XK}
theorem runG {pins : List (Addr × Obj)} {σ : L2.St} {H : Hp} {s : Shared} {Q : VK} {us : List Value} {vs : List V} (F : FnG X.prog X.w X.K X.mg X.base k f fd ps sp) (gd : X.A.guards = some []) (hr : Room k X.A) (hb : Binds X.K fd ps ds) (hd : Vals dvs ds)
    (I : Inv X pins σ H s) (r : Vals vs us) (h : sp (vs ++ dvs) H Q E) : wpAny (model X.prog X.w) X.A (call (.ref f) us) (EP X pins σ Q) X.xe s := by
  have rr : Vals (vs ++ dvs) (us ++ ds) := r.append hd
  have ll : (us ++ ds).length = ps.length := rr.length.symm.trans (F.len _ _ _ _ h)
  refine wpAny_call (codeAny_mono (F.go X.A X.stack s H ⟨us, []⟩ (us ++ ds) (vs ++ dvs) Q E gd hr I.env0 (hb s us I.kIn ll) rr h) fun z s' hq => ?_)
  match z, hq with
  | .error _, hq => exact hq.elim
  | .ok (.ret _), hq => exact I.after hq
  | .ok .next, hq => exact False.elim hq
  | .ok .brk, hq => exact False.elim hq
  | .ok .cont, hq => exact False.elim hq
theorem pe_callG (F : FnG X.prog X.w X.K X.mg X.base k f fd ps sp) (gd : X.A.guards = some []) (hr : Room k X.A) (hg : Gl X x) (hm : X.mg x = some (.ref f)) (hk : PySem.W.keepIn X.K (.ref f) = true) (hb : Binds X.K fd ps ds) (hd : Vals dvs ds)
    (ha : PA X (e :: es) t) (hdb : (x == ("__debug__" : Str)) = false := by decide) (he : starEach (e :: es) X.env = (false, eval e X.env) :: starEach es X.env := by rfl) (hpl : (backTo pos (starEach es X.env)).any (·.1) = false := by rfl) :
    PE X (.Call (.Name x p) (e :: es) [] pos) (tCall sp dvs E t) :=
  ⟨fun pins s σ H Q I h => wpAny_Call_Name_kw (ld_glob I hg hm (PySem.W.callWith_K (h₀ := X.base) I.ok.mod.kin hk
    (thn (ha.run pos pins s σ H _ I h) fun us s1 ⟨vs, H1, I1, r, q⟩ => ⟨I1.kIn, runG F gd hr hb hd I1 r q⟩) he hpl) hdb)⟩

/-! ### repr of data -/
theorem call_reprD (gd : X.A.guards = some []) (hu : X.A.units + 64 < cLine) : CallR X (.builtin "repr") (fun xs H Q => ∃ a d, xs = [.ref a] ∧ Dp X.K H (.ref a) d ∧ d.showable = true ∧ d.hasDict = false ∧ d.depth < 60 ∧ d.shown.length ≤ sizeLine ∧ Q (.str d.shown) H) := by
  intro pins s σ H xs us Q I r h
  obtain ⟨a, d, rfl, hd, h1, h2, h3, h4, q⟩ := h
  obtain ⟨u, rfl, ru⟩ := vals1 r
  obtain ⟨as, rd⟩ := Dp.reads I d _ u hd ru
  cases ru
  refine repr_of_reads' rd h1 (PyData.noDict_hsm h2) gd (by omega) (fun _ _ z => z) (fun h' u tk hk => ?_) h4
  exact ⟨.str d.shown, H, I.kept hk, ⟨u, rfl⟩, q⟩
theorem call_reprN : CallR X (.builtin "repr") (fun xs H Q => ∃ i, xs = [.int i] ∧ i.natAbs.log2 < 1920 ∧ Q (.str (toString i)) H) := by
  intro pins s σ H xs us Q I r h
  obtain ⟨i, rfl, hz, q⟩ := h
  obtain ⟨u, rfl, t, rfl⟩ := vals1 r
  exact PySem.P.repr_of_int hz ⟨.str (toString i), H, I.tok _, ⟨_, rfl⟩, q⟩

/-! ### calls by names alone -/
theorem pe_callK0 {CX : CXT} {kws : List Keyword} {tk : TA} {ks : List Str} {g : List Value → List Value → List Value} {gV : List V → List V → List V} (F : FnOk X.prog X.w X.K X.mg X.base CX k f fd ps sp) (hr : Room k X.A) (hg : Gl X x)
    (hm : X.mg x = some (.ref f)) (hk : PySem.W.keepIn X.K (.ref f) = true) (hb : KBinds X.K fd ps ks g gV) (hx : Passes CX X E) (hkw : PK X kws tk)
    (hall : (backToKw pos (keywordEach kws X.env)).all (·.1.isSome) = true := by rfl) (hks : (backToKw pos (keywordEach kws X.env)).filterMap (·.1) = ks := by rfl) (hdb : (x == ("__debug__" : Str)) = false := by decide)
    (hpl : ((backTo pos (starEach [] X.env)).any (·.1) || (backToKw pos (keywordEach kws X.env)).any (·.1.isNone)) = false := by rfl) : PE X (.Call (.Name x p) [] kws pos) (tCallK sp gV E tNil tk) := by
  refine ⟨fun pins s σ H Q I h => wpAny_Call_Name_kw (ld_glob I hg hm (PySem.W.callWith_KW0 (h₀ := X.base) I.ok.mod.kin hk hall ?_ hpl) hdb)⟩
  refine thn (hkw.run pos pins s σ H _ I h) fun ws s2 ⟨zs, H2, I2, rz, q2⟩ => ⟨I2.kIn, ?_⟩
  rw [hks]
  exact run_fnk F hr hb hx I2 .nil rz q2

/-! ### t[::-1], t a tuple -/
end
section
variable {prog : Program} {w : World} {A : Around} {E : Value → Shared → Prop} {s : Shared}
theorem back_adjust (n : Nat) : Builtin.Slice.sliceAdjust none none (-1) (n : Int) = ((n : Int) - 1, -1) := by
  unfold Builtin.Slice.sliceAdjust
  rfl
theorem back_places (n : Nat) : Builtin.Slice.slicePlaces ((n : Int) - 1) (-1) (-1) = n := by
  unfold Builtin.Slice.slicePlaces
  have h1 : ¬ ((-1 : Int) > 0) := by omega
  simp only [h1, if_false, Int.neg_neg, Int.ediv_one]
  split <;> omega
theorem back_pick (xs : Array Value) : ((List.range xs.size).filterMap fun (k : Nat) => xs[((xs.size : Int) - 1 + (k : Int) * (-1)).toNat]?).toArray = xs.toList.reverse.toArray := by
  have e : ((List.range xs.size).filterMap fun (k : Nat) => xs[((xs.size : Int) - 1 + (k : Int) * (-1)).toNat]?) = ((List.range xs.size).map fun k => xs.size - 1 - k).filterMap (xs[·]?) := by
    rw [List.filterMap_map]
    have h : ∀ l : List Nat, l.filterMap (fun (k : Nat) => xs[((xs.size : Int) - 1 + (k : Int) * (-1)).toNat]?) = l.filterMap ((fun x => xs[x]?) ∘ fun k => xs.size - 1 - k) := by
      intro l
      induction l with
      | nil => rfl
      | cons k l ih =>
        have ek : ((xs.size : Int) - 1 + (k : Int) * (-1)).toNat = xs.size - 1 - k := by omega
        simp only [List.filterMap_cons, ih, Function.comp, ek]
    exact h _
  rw [e, PySem.W.krv_range, List.filterMap_reverse, PySem.W.krv_all]
theorem back_applied {sl : Addr} {vl vu vs : Value} {n : Nat} {Q : Int × Int × Nat → Shared → Prop} (hs : s.heap.IsSliceOf sl vl vu vs) (pl : IsPart vl none) (pu : IsPart vu none) (pk : IsPart vs (some (-1)))
    (h : Q ((n : Int) - 1, -1, n) s) : wpAny (model prog w) A (Builtin.Slice.sliceApplied (.ref sl) (pure (n : Int))) Q E s := by
  obtain ⟨os, ho, _, hd⟩ := id hs
  unfold Builtin.Slice.sliceApplied Builtin.Slice.sliceFields
  refine wpAny_bind (wpAny_bind (wpAny_field ho hd (x := vl) rfl (wpAny_bind (wpAny_field ho hd (x := vu) rfl (wpAny_bind (wpAny_field ho hd (x := vs) rfl (wpAny_pure ?_)))))))
  refine wpAny_bind (HT.slicePart_ pk ?_)
  show wpAny _ _ (if ((-1 : Int) == 0) = true then _ else _) _ _ s
  rw [if_neg (by decide)]
  refine wpAny_bind (HT.slicePart_ pl (wpAny_bind (HT.slicePart_ pu (wpAny_bind (wpAny_pure ?_)))))
  show wpAny _ _ (match Builtin.Slice.sliceAdjust none none (-1) (n : Int) with | (lo, hi) => pure (lo, (-1 : Int), Builtin.Slice.slicePlaces lo hi (-1))) _ _ s
  rw [back_adjust n]
  show wpAny _ _ (pure ((n : Int) - 1, (-1 : Int), Builtin.Slice.slicePlaces ((n : Int) - 1) (-1) (-1))) _ _ s
  rw [back_places]
  exact wpAny_pure h
theorem getItem_tuple_back {t sl : Addr} {items : Array Value} {vl vu vs : Value} {Q : Value → Shared → Prop} (ht : IsTup s.heap t items) (hs : s.heap.IsSliceOf sl vl vu vs) (pl : IsPart vl none) (pu : IsPart vu none) (pk : IsPart vs (some (-1)))
    (h : Q (.ref s.heap.objs.size) { s with heap := s.heap.push { cls := .type "tuple", data := .seq items.toList.reverse.toArray } }) (hsz : items.size ≤ sizeLine) : wpAny (model prog w) A (getItem (.ref t) (.ref sl)) Q E s := by
  have hz : sizeOk (.seq items.toList.reverse.toArray) := by
    show items.toList.reverse.toArray.size ≤ sizeLine
    rw [List.size_toArray, List.length_reverse, Array.length_toList]
    exact hsz
  obtain ⟨os, ho, hcs, _⟩ := id hs
  have hT : s.TypeIs (.ref sl) "slice" := ⟨os, ho, hcs⟩
  unfold getItem
  try with_reducible refine wpAny_holding ?_
  first | refine wpAny_bind (wpAny_pure ?_) | skip
  refine wpAny_bind (wpAny_sequenceKey ht.typeIs (by decide) ?_)
  refine wpAny_bind (wpAny_callSpecial?_slot (name := Str.ofString "__getitem__") ht.typeIs PyProof.Rows.slot_tuple_getitem (wpAny_call_entry PyProof.Rows.slot_tuple_getitem ht.typeIs entry_tuple_getitem ?_ (args_tuple_getitem _ _)))
  show wpAny _ _ (Builtin.Tuple.tupleItemsOf (.ref t) >>= _) _ _ s
  refine wpAny_bind (tupleItemsOf_ ht ?_)
  refine wpAny_bind (wpAny_typeOf hT ?_)
  rw [if_pos (by decide)]
  refine wpAny_bind (back_applied hs pl pu pk ?_)
  have hno : ¬ ((((items.size : Int) - 1) == 0 && (-1 : Int) == 1 && items.size == items.size) = true) := by
    intro q
    rw [Bool.and_eq_true, Bool.and_eq_true] at q
    exact absurd (eq_of_beq q.1.2) (by decide)
  show wpAny _ _ (if (((items.size : Int) - 1) == 0 && (-1 : Int) == 1 && items.size == items.size) = true then _ else _) _ _ s
  rw [if_neg hno, back_pick]
  first
    | exact wpAny_bind (m := Builtin.Tuple.tupleExact _) (wpAny_newObj_type (wpAny_pure ⟨_, rfl, wpAny_pure h⟩) hz)
    | exact wpAny_bind (m := Builtin.Tuple.tupleExact _) (wpAny_newObj_type (wpAny_bind (wpAny_pure (wpAny_pure ⟨_, rfl, wpAny_pure h⟩))) hz)
    | exact wpAny_bind (wpAny_bind (m := Builtin.Tuple.tupleExact _) (wpAny_newObj_type (wpAny_pure (wpAny_pure ⟨_, rfl, wpAny_pure h⟩)) hz))
    | exact wpAny_bind (wpAny_bind (m := Builtin.Tuple.tupleExact _) (wpAny_newObj_type (wpAny_pure ⟨_, rfl, wpAny_pure h⟩) hz))
end
section
variable {X : Cx} {x : Str} {p pos : Pos} {e : Expr} {es : List Expr} {t : TA} {k : Nat} {f : Addr} {fd : FuncData} {ps : List Str} {sp : Sp} {ds : List Value} {dvs : List V} {E : XK}
def tRevT (K : PySem.W.Frag) (te : TE) : TE := fun σ H Q => te σ H fun x H1 => ∃ a xs, x = .ref a ∧ SqT K H1 a xs ∧ ∀ p, H1 p = none → Q (.ref p) (upd H1 p (.tup xs.reverse))
theorem pe_revT {te : TE} {k : Nat} {p1 p2 p3 : Pos} (he : PE X e te) : PE X (.Subscript e (.Slice none none (some (.UnaryOp .USub (.Constant (.int 1) k p1) p2)) p3) pos) (tRevT X.K te) := by
  refine ⟨fun pins s σ H Q I h => Subscript_ (thn (he.run pins s σ H _ I h) fun v s1 ⟨y, H1, I1, r1, a, xs, ey, hx, q⟩ => ?_)⟩
  subst ey
  cases r1
  have hst : PO X (some (.UnaryOp .USub (.Constant (.int 1) k p1) p2)) (tPart (tUn (rU fun i => .int (-i)) (tC (.int 1)))) := po_some (pe_un un_neg pe_int)
  refine wpAny_Slice (thn (po_none.run pins s1 σ H1 (fun o H2 => o = none ∧ H2 = H1) I1 ⟨rfl, rfl⟩) fun vl s2 ⟨l, H2, I2, pl, el, e2⟩ => ?_)
  subst el e2
  refine thn (po_none.run pins s2 σ H2 (fun o H3 => o = none ∧ H3 = H2) I2 ⟨rfl, rfl⟩) fun vu s3 ⟨u, H3, I3, pu, eu, e3⟩ => ?_
  subst eu e3
  refine thn (hst.run pins s3 σ H3 (fun o H4 => o = some (-1) ∧ H4 = H3) I3 ⟨1, rfl, -1, rfl, rfl, rfl⟩) fun vs s4 ⟨o, H4, I4, pk, eo, e4⟩ => ?_
  subst eo e4
  have J : Inv X pins σ H4 { s4 with heap := s4.heap.push { cls := .type "slice", data := .fields #[vl, vu, vs] } } := I4.kept (t' := s4.toks) fun b ob q => Heap.get?_push_of_some _ q
  obtain ⟨its, r, ht, hz⟩ := J.tuple hx
  show wpAny (model X.prog X.w) X.A (subscriptTail e (.Slice none none (some (.UnaryOp .USub (.Constant (.int 1) k p1) p2)) p3) (.ref a) (.ref s4.heap.objs.size)) (EP X pins σ Q) X.xe { s4 with heap := s4.heap.push { cls := .type "slice", data := .fields #[vl, vu, vs] } }
  refine tail_any (ops := [.ref a, .ref s4.heap.objs.size]) ht.typeIs (PyProof.Rows.slot_tuple_getitem.lookup) ?_ (by with_unfolding_all rfl)
  refine getItem_tuple_back ht (Heap.IsSliceOf.new _ vl vu vs) pl pu pk ?_ (by rw [List.size_toArray, ← r.length]; exact hz)
  refine ⟨.ref _, _, J.laid (t' := s4.toks) (o := .tup xs.reverse) (fun b ob q => Heap.get?_push_of_some _ q) (Nat.le_refl _) ?_, rfl, q _ (J.hok.fresh (Nat.le_refl _))⟩
  exact ⟨by rw [List.length_reverse]; exact hz, its.reverse, r.reverse, IsTup.new _ _⟩

/-! ### t * k, whatever t is -/
def rRepA (K : PySem.W.Frag) : R2 := fun x y H Q => ∃ l k xs, x = .ref l ∧ y = .int k ∧ SqT K H l xs ∧ 2 ≤ k ∧ k ≤ 1000 ∧ xs.length ≤ 1000 ∧
  (xs = [] → Q (.ref l) H) ∧ (xs ≠ [] → ∀ p, H p = none → Q (.ref p) (upd H p (.tup (List.replicate k.toNat xs).flatten)))
theorem tuple_mul0 (l : Addr) (items : Array Value) (n : Nat) (dd : Option Addr) (sl : Array (Option Value)) (x : Int) (u : Tok) (c0 : (decide (x < -(2 ^ 63)) || decide (x ≥ 2 ^ 63)) = false) (c1 : (items.isEmpty || x == 1) = true) :
    Meets (Builtin.«tuple.__mul__» ⟨[.ref l, .int x u], []⟩) (fun _ R s => s.heap.get? l = some { cls := .type "tuple", dict := dd, data := .seq items n, slots := sl } ∧ R (.ok (.ret (Value.ref l))) s) :=
  .of_wp fun prog w A R s h => by
    obtain ⟨hp, g, d, tk, os⟩ := s
    obtain ⟨hl, h⟩ := h
    have f1 := AutoSeq1.idx_int
    wp_walk using wpAny_loadPart' hl
    repeat (first
      | (refine wpAny_ite_false (decide_eq_false (by rw [c0]; exact Bool.false_ne_true)) ?_; wp_walk using wpAny_loadPart' hl)
      | (refine wpAny_ite_true (decide_eq_true c1) ?_; wp_walk using wpAny_loadPart' hl))
    exact ⟨_, rfl, h⟩
theorem op_repA : OpR X (binaryOp .Mult) (rRepA X.K) := by
  intro pins s σ H x y v u Q I rx ry h
  obtain ⟨l, k, xs, rfl, rfl, hT, h1, h2, hz, q0, q1⟩ := h
  by_cases hx : xs = []
  · subst hx
    cases rx
    obtain ⟨t, rfl⟩ := ry
    obtain ⟨its, r, ⟨⟨cls, dd, data, sl⟩, ho, hc, n, hd⟩, hs⟩ := I.tuple hT
    simp only at hc hd
    subst hc hd
    cases r
    have c0 : (decide (k < -(2 ^ 63)) || decide (k ≥ 2 ^ 63)) = false := by
      rw [decide_eq_false (by omega), decide_eq_false (by omega)] <;> rfl
    exact wpAny_binaryOp_repeat_ref (T := "tuple") (U := "int") (by decide) ⟨_, ho, rfl⟩ (fun s' => typeIs_int s' k t) noFill_tuple_mul F.fills_int_mul F.slot_int_rmul repeat_tuple F.slot_int_index.lookup
      (call_meets F.slot_int_rmul (typeIs_int s k t) F.entry_int_rmul (F.args_int_rmul_2 _ _) (int_rmul_tuple k t l ([] : List Value).toArray n dd sl)
        ⟨ho, rfl, ⟨_, ho, rfl⟩, call_meets F.slot_tuple_mul ⟨_, ho, rfl⟩ F.entry_tuple_mul (F.args_tuple_mul_2 _ _) (tuple_mul0 l ([] : List Value).toArray n dd sl k t c0 (by rfl)) ⟨ho, ⟨.ref l, H, I, rfl, q0 rfl⟩⟩⟩)
  · exact op_repT pins s σ H _ _ v u Q I rx ry ⟨l, k, xs, rfl, rfl, hT, hx, h1, h2, hz, q1 hx⟩
end
end Bf
namespace Bf
open PySem PySem.W PyProof.Rows
/-! ### sorted(t, key=f), f's calls keep all, the frames up to their slots -/
def KS (fs : List Addr) (h h' : Heap) : Prop := ∀ b o, h.get? b = some o → (b ∉ fs → h'.get? b = some o) ∧ ∃ sl, h'.get? b = some { o with slots := sl }
def SS (fs : List Addr) (s s' : Shared) : Prop := KS fs s.heap s'.heap ∧ s'.os = s.os ∧ AllBare s'.gens
theorem KS.trans {fs : List Addr} {h h' h'' : Heap} (x : KS fs h h') (y : KS fs h' h'') : KS fs h h'' := fun b o e => by
  obtain ⟨x1, sl, x2⟩ := x b o e
  refine ⟨fun n => (y b o (x1 n)).1 n, ?_⟩
  obtain ⟨_, sl2, y2⟩ := y b _ x2
  exact ⟨sl2, y2⟩
theorem KS.of {fs : List Addr} {h h' : Heap} (x : ∀ b o, h.get? b = some o → h'.get? b = some o) : KS fs h h' := fun b o e => ⟨fun _ => x b o e, o.slots, x b o e⟩
section
variable {prog : Program} {w : World} {A : Around} {E : Value → Shared → Prop} {s : Shared} {a kS : Addr} {b : Bool} {vs : List Value} {e e1 : Nat} {P : PySem.Fin → Shared → Prop} {kz : List Int} {fs : List Addr}
theorem ints_alike (kz : List Int) : AllAlike (kz.map PyData.int) := fun d hd d' hd' => by
  obtain ⟨i, _, rfl⟩ := List.mem_map.mp hd
  obtain ⟨j, _, rfl⟩ := List.mem_map.mp hd'
  rfl
theorem ints_sortable (kz : List Int) : Sortable (kz.map PyData.int) := .inr fun d hd => by
  obtain ⟨i, _, rfl⟩ := List.mem_map.mp hd
  exact ⟨(fun z => nomatch z), fun xs z => nomatch z⟩
theorem ints_each (g : Heap) {l : List Value} {ks : List Int} (hk : IntsAre l ks) : EachIs (fun v k => ∃ as, Reads g v k as) l (ks.map PyData.int) := by
  induction hk with
  | nil => exact .nil
  | cons n t _ ih => exact .cons ⟨_, Reads.int n t⟩ ih
theorem keyS_rest {f : Value} {s₀ : Shared} (k0 : SS fs s₀ s) (hkS : s₀.heap.get? kS = none) (ha0 : s₀.heap.get? a = none) (fk : kS ∉ fs) (fa : a ∉ fs) (nk : s.heap.get? kS = some (seqObj "list" #[] 0)) (na : s.heap.get? a = some (seqObj "list" #[] e1)) (hka : kS ≠ a)
    (hlen : kz.length = vs.length) (hZ : vs.length ≤ sizeLine) (hu : A.units + 1 < cLine)
    (turn : ∀ (i : Nat) (v : Value) (n : Int), vs[i]? = some v → kz[i]? = some n → ∀ s1 : Shared, SS fs s₀ s1 → wpAny (model prog w) A (call f [v]) (fun u s2 => (∃ t, u = .int n t) ∧ SS fs s1 s2) (fun _ _ => False) s1)
    (h : ∀ s2 out c, SS fs s₀ s2 → s2.heap.get? a = some (seqObj "list" (List.toArray out) c) → KeyedOut b (kz.map PyData.int) vs out → P (.done (.ret .none)) s2) :
    wpAny (model prog w) A (ksk_rest a f b vs.toArray e1 (.ref kS)) P E s := by
  unfold ksk_rest
  refine wpAny_bind (wpAny_rule ?_)
  first
    | rw [List.forIn_toArray]
    | (rw [← Array.forIn_toList]; simp only [List.toList_toArray])
    | rw [← Array.forIn_toList]
  refine wpAny_bind (ksk_fold (fun i z => ∃ kA c, SS fs s₀ z ∧ z.heap.get? kS = some (seqObj "list" kA c) ∧ z.heap.get? a = some (seqObj "list" #[] e1) ∧ IntsAre kA.toList (kz.take i)) vs 0 s ⟨#[], 0, k0, nk, na, by rw [List.take_zero]; exact .nil⟩ ?step ?done)
  case step =>
    rintro j x z hx ⟨kA, c, kp, nk', na', hk⟩
    simp only [Nat.zero_add] at hk ⊢
    have hj : j < vs.length := (List.getElem?_eq_some_iff.mp hx).1
    obtain ⟨n, hn⟩ : ∃ n, kz[j]? = some n := ⟨_, List.getElem?_eq_getElem (by omega)⟩
    have hz : kA.size ≤ vs.length := by
      have h1 := hk.length
      rw [Array.length_toList, List.length_take] at h1
      omega
    refine wpAny_bind (wpAny_attempt (wpAny_mono (turn j x n hx hn z kp) (fun v z2 he => ?_) fun _ _ hF => hF.elim))
    obtain ⟨⟨t, rfl⟩, g1, g2, g3⟩ := he
    try dsimp only
    have nk2 : z2.heap.get? kS = some (seqObj "list" kA c) := (g1 _ _ nk').1 fk
    have na2 : z2.heap.get? a = some (seqObj "list" #[] e1) := (g1 _ _ na').1 fa
    have s1 := Heap.SameBut.update z2.heap kS (Obj.mapSeq (·.push (.int n t)))
    obtain ⟨c2, hc2⟩ : ∃ c2, (z2.heap.update kS (Obj.mapSeq (·.push (.int n t)))).get? kS = some (seqObj "list" (kA.push (.int n t)) c2) := ⟨_, get?_update_seq nk2 (·.push (.int n t))⟩
    refine wpAny_bind (listUpdate_at nk2 rfl ?_ (Nat.le_trans hz hZ) (Nat.le_trans (Nat.le_of_eq (Array.size_push ..)) (Nat.succ_le_succ (Nat.le_trans hz hZ))))
    refine wpAny_pure ⟨rfl, kA.push (.int n t), c2, ⟨?_, g2.trans kp.2.1, g3⟩, hc2, (s1.2 a hka.symm).trans na2, ?_⟩
    · have q := kp.1.trans g1
      intro d o ed
      obtain ⟨q1, sl, q2⟩ := q d o ed
      have hd : d ≠ kS := fun z => by rw [z, hkS] at ed; cases ed
      exact ⟨fun m => (s1.2 d hd).trans (q1 m), sl, (s1.2 d hd).trans q2⟩
    · have ek : kz.take (j + 1) = kz.take j ++ [n] := by rw [List.take_add_one, hn]; simp
      have ea : (kA.push (Value.int n t)).toList = kA.toList ++ [Value.int n t] := by simp
      rw [ea, ek]
      exact ksk_snoc hk
  case done =>
    rintro z ⟨kA, c, kp, nk', na', hk⟩
    have e3 : kz.take (0 + vs.length) = kz := List.take_of_length_le (by omega)
    rw [e3] at hk
    have hk' : EachIs (fun v k => ∃ as, Reads z.heap v k as) kA.toList (kz.map PyData.int) := ints_each z.heap hk
    have hsz : kA.size = vs.length := by
      have h1 := hk.length
      rw [Array.length_toList] at h1
      omega
    try dsimp only
    refine wpAny_bind (listItems_at nk' rfl ?_)
    refine keyH_end (s := z) (κ := dataKind z.heap (kz.map PyData.int)) (h₁ := L2.hidT z.heap (fun d => if d = kS then some (.own 0) else none)) (fun d o hd ed => (L2.of_hidT ed).1) ?_ nk' na' hka
      (SortsAt.data (s := z) hk' (ints_alike kz) (ints_sortable kz) fun d hd => ?_) hsz hZ fun h3 tk3 c3 k3 n3 => h _ _ c3 ⟨?_, kp.2.1, kp.2.2⟩ n3 ⟨z.heap, kA.toList, ints_alike kz, rfl, hk'⟩
    · cases q : (L2.hidT z.heap (fun d => if d = kS then some (.own 0) else none)).get? kS with
      | none => rfl
      | some o =>
        have q2 := (L2.of_hidT q).2
        rw [if_pos rfl] at q2
        cases q2
    · obtain ⟨i, _, rfl⟩ := List.mem_map.mp hd
      show A.units + 0 < cLine
      omega
    · intro d o ed
      obtain ⟨q1, sl, q2⟩ := kp.1 d o ed
      have hd : d ≠ kS := fun z => by rw [z, hkS] at ed; cases ed
      have hda : d ≠ a := fun z => by rw [z, ha0] at ed; cases ed
      have up : ∀ o', z.heap.get? d = some o' → h3.get? d = some o' := fun o' e' => k3 d o' hda (L2.hidT_get e' (if_neg hd))
      exact ⟨fun m => up _ (q1 m), sl, up _ q2⟩
theorem keyS_tree {f : Value} {n : Nat} {s₀ : Shared} (k0 : SS fs s₀ s) (ha0 : s₀.heap.get? a = none) (hfs : ∀ d ∈ fs, d < s.heap.objs.size) (fa : a ∉ fs) (ho : s.heap.get? a = some (seqObj "list" vs.toArray n)) (hlen : kz.length = vs.length) (hZ : vs.length ≤ sizeLine) (hu : A.units + 1 < cLine)
    (turn : ∀ (i : Nat) (v : Value) (n : Int), vs[i]? = some v → kz[i]? = some n → ∀ s1 : Shared, SS fs s₀ s1 → wpAny (model prog w) A (call f [v]) (fun u s2 => (∃ t, u = .int n t) ∧ SS fs s1 s2) (fun _ _ => False) s1)
    (h : ∀ s2 out c, SS fs s₀ s2 → s2.heap.get? a = some (seqObj "list" (List.toArray out) c) → KeyedOut b (kz.map PyData.int) vs out → P (.done (.ret .none)) s2) : wpAny (model prog w) A (ksk_tree a f b) P E s := by
  have la : a < s.heap.objs.size := Heap.lt_size ho
  obtain ⟨e1, o1⟩ : ∃ e1, (s.heap.update a (Obj.mapSeq fun _ => (#[] : Array Value))).get? a = some (seqObj "list" #[] e1) := ⟨_, get?_update_seq ho fun _ => #[]⟩
  have zS : ((s.heap.update a (Obj.mapSeq fun _ => (#[] : Array Value))).push (seqObj "tuple" vs.toArray 0)).objs.size = s.heap.objs.size + 1 := by rw [size_push', Heap.size_update]
  have nS : s₀.heap.get? (s.heap.objs.size + 1) = none := by
    cases q : s₀.heap.get? (s.heap.objs.size + 1) with
    | none => rfl
    | some o =>
      obtain ⟨_, sl, q2⟩ := k0.1 _ _ q
      exact absurd (Heap.lt_size q2) (Nat.not_lt.mpr (Nat.le_succ _))
  unfold ksk_tree
  refine wpAny_bind (listItems_at ho rfl ?_)
  refine wpAny_bind (listUpdate_at ho rfl ?_ (by rw [List.size_toArray]; exact hZ) (Nat.zero_le _))
  refine wpAny_bind (seqEpoch_at o1 rfl ?_)
  refine wpAny_bind (wpAny_newTuple ?_ (by show vs.length ≤ _; exact hZ))
  refine wpAny_bind (wpAny_newList ?_ (Nat.zero_le _))
  refine wpAny_holding ?_
  refine keyS_rest (kz := kz) (fs := fs) (s₀ := s₀) (s := { s with heap := ((s.heap.update a (Obj.mapSeq fun _ => (#[] : Array Value))).push (seqObj "tuple" vs.toArray 0)).push (seqObj "list" #[] 0) })
    (kS := ((s.heap.update a (Obj.mapSeq fun _ => (#[] : Array Value))).push (seqObj "tuple" vs.toArray 0)).objs.size) ⟨?_, k0.2.1, k0.2.2⟩ (by rw [zS]; exact nS) ha0 (fun z => ?_) fa (Heap.get?_push_size _ rfl) (Heap.get?_push_of_some _ (Heap.get?_push_of_some _ o1))
    (by rw [zS]; exact Nat.ne_of_gt (Nat.lt_succ_of_lt la)) hlen hZ hu turn h
  · intro d o ed
    obtain ⟨q1, sl, q2⟩ := k0.1 d o ed
    have hd : d ≠ a := fun z => by rw [z, ha0] at ed; cases ed
    have up : ∀ o', s.heap.get? d = some o' → (((s.heap.update a (Obj.mapSeq fun _ => (#[] : Array Value))).push (seqObj "tuple" vs.toArray 0)).push (seqObj "list" #[] 0)).get? d = some o' := fun o' e' =>
      Heap.get?_push_of_some _ (Heap.get?_push_of_some _ ((Heap.get?_update_ne _ _ _ _ hd).trans e'))
    exact ⟨fun m => up _ (q1 m), sl, up _ q2⟩
  · have q := hfs _ z
    rw [zS] at q
    exact absurd q (Nat.not_lt.mpr (Nat.le_succ _))
theorem collect_tup {t : Addr} {Q : List Value → Shared → Prop} (ht : IsTup s.heap t vs.toArray) (h : Q vs { s with heap := (s.heap.push (seqObj "list" #[] 0)).update s.heap.objs.size (Obj.mapSeq (· ++ vs.toArray)) }) (hsz : vs.length ≤ sizeLine) :
    wpAny (model prog w) A (collect (.ref t)) Q E s := by
  obtain ⟨o, ho, hc, n, hd⟩ := id ht
  unfold collect
  refine wpAny_bind (wpAny_runValue (codeAny_builtin entry_proto_collect' ?_))
  show wpAny _ _ (do again (.builtin "list.__iadd__" ⟨[← newList [], .ref t], []⟩)) _ _ s
  refine wpAny_bind (wpAny_newList (wpAny_pure ⟨Code.quiet_builtin _ (by decide +kernel), codeAny_builtin entry_list_iadd' ?_⟩))
  show wpAny _ _ (Builtin.List.listExtendWith (.ref s.heap.objs.size) (.ref t) (.ref s.heap.objs.size)) _ _ { s with heap := s.heap.push (seqObj "list" #[] 0) }
  unfold Builtin.List.listExtendWith
  have o2 : (s.heap.push (seqObj "list" #[] 0)).get? t = some o := Heap.get?_push_of_some _ ho
  refine wpAny_bind (wpAny_typeOf (T := "tuple") ⟨o, o2, hc⟩ ?_)
  have hT : (Value.type "tuple" == Value.type "tuple") = true := by rfl
  rw [if_pos (by rw [hT]; simp)]
  refine wpAny_bind (listItems_at o2 hd ?_)
  refine wpAny_bind (listItems_at (xs := #[]) (n := 0) (Heap.get?_push_size _ rfl) rfl ?_)
  rw [if_neg (by simp)]
  refine wpAny_bind (listUpdate_at (xs := #[]) (n := 0) (Heap.get?_push_size _ rfl) rfl ?_ (Nat.zero_le _) (by show (#[] ++ vs.toArray).size ≤ sizeLine + 1; simp only [Array.size_append, List.size_toArray, List.length_nil]; omega))
  refine wpAny_pure ?_
  show wpAny (model prog w) A (do
      let x ← load s.heap.objs.size
      match x.data with
      | .seq xs _ => pure xs.toList
      | _ => unsupported "internal:collect") Q E { s with heap := (s.heap.push (seqObj "list" #[] 0)).update s.heap.objs.size (Obj.mapSeq (· ++ vs.toArray)) }
  refine wpAny_bind (wpAny_load (get?_update_seq (Heap.get?_push_size _ rfl) _) ?_)
  show wpAny _ _ (pure ((#[] : Array Value) ++ vs.toArray).toList) Q E _
  rw [show ((#[] : Array Value) ++ vs.toArray).toList = vs by simp]
  exact wpAny_pure h
theorem sortedT {t : Addr} {f : Value} {kw : List (Str × Value)} {Q : Value → Shared → Prop} (bare : AllBare s.gens) (hfs : ∀ d ∈ fs, d < s.heap.objs.size) (ht : IsTup s.heap t vs.toArray) (hlen : kz.length = vs.length) (hZ : vs.length ≤ sizeLine) (hu : A.units + 3 < cLine)
    (ha1 : argsOk "sorted" ⟨[.ref t], kw⟩) (ha2 : ∀ x, argsOk "list.sort" ⟨[.ref x], kw⟩) (hk : ∀ x, Builtin.«list.sort» ⟨[.ref x], kw⟩ = ksk_tree x f b)
    (turn : ∀ (i : Nat) (v : Value) (n : Int), vs[i]? = some v → kz[i]? = some n → ∀ s1 : Shared, SS fs s s1 → wpAny (model prog w) A.in1.in1 (call f [v]) (fun u s2 => (∃ t, u = .int n t) ∧ SS fs s1 s2) (fun _ _ => False) s1)
    (h : ∀ s2 out c, SS fs s s2 → s2.heap.get? (s.heap.objs.size + 1) = some (seqObj "list" (List.toArray out) c) → KeyedOut b (kz.map PyData.int) vs out → Q (.ref (s.heap.objs.size + 1)) s2) : wpAny (model prog w) A (call (.builtin "sorted") [.ref t] kw) Q E s := by
  refine call_function_entry_kw kind_sorted plain_sorted entry_sorted ha1 ?_
  unfold Builtin.«sorted»
  refine wpAny_bind (m := checkCount "sorted" 1 1 _) (wpAny_pure ?_)
  refine wpAny_bind (collect_tup ht ?_ hZ)
  refine wpAny_bind (wpAny_newList ?_ hZ)
  have z1 : ((s.heap.push (seqObj "list" #[] 0)).update s.heap.objs.size (Obj.mapSeq (· ++ vs.toArray))).objs.size = s.heap.objs.size + 1 := by rw [Heap.size_update, size_push']
  show wpAny _ _ _ _ _ { s with heap := copyHeap s.heap vs }
  rw [z1]
  refine wpAny_bind (wpAny_holding (wpAny_call_entry_kw slot_list_sort ⟨_, copyHeap_at s.heap vs, rfl⟩ entry_list_sort ?body (ha2 _)))
  case body =>
    show wpAny (model prog w) A.in1.in1 (Builtin.«list.sort» ⟨[.ref (s.heap.objs.size + 1)], kw⟩) _ _ _
    rw [hk]
    have fresh : s.heap.get? (s.heap.objs.size + 1) = none := Heap.get?_none_of_le (Nat.le_succ _)
    refine keyS_tree (kz := kz) (fs := fs) (s₀ := s) (s := { s with heap := copyHeap s.heap vs }) ⟨KS.of fun d o q => copyHeap_old q, rfl, bare⟩ fresh (fun d hd => ?_) (fun z => ?_) (copyHeap_at s.heap vs) hlen hZ (by show A.units + 1 + 1 + 1 < cLine; omega) turn fun s2 out c k3 n3 ko => ⟨_, rfl, ?_⟩
    · exact Nat.lt_trans (hfs d hd) (Nat.lt_trans (Nat.lt_succ_self _) (Heap.lt_size (copyHeap_at s.heap vs)))
    · exact absurd (hfs _ z) (Nat.not_lt.mpr (Nat.le_succ _))
    · exact wpAny_pure ⟨_, rfl, h s2 out c k3 n3 ko⟩
end
end Bf
namespace Bf
open PySem PySem.Spec PyProof.Rows L2 LamX NdefX
section
variable {X : Cx} {pins : List (Addr × Obj)} {σ : L2.St} {H : Hp} {s s1 : Shared}
/-- all is kept, the frames up to slots; a list is new at D, perhaps -/
theorem inv_SS {H' : Hp} (I : Inv X pins σ H s) (k : SS (frs X.stack) s s1) (h1 : ∀ b o, H b = some o → H' b = some o) (h2 : ∀ b, b < s.heap.objs.size → H b = none → H' b = none)
    (h3 : ∀ b o, H' b = some o → H b = some o ∨ ObjOk X.prog X.w H' s1.heap b o) : Inv X pins σ H' s1 := by
  obtain ⟨k1, k2, k3⟩ := k
  have un : Un (frs X.stack) [] H H' s.heap s1.heap := ⟨fun b o e n hb _ => (k1 b o e).1 hb, fun b o e n hb _ => (k1 b o e).2, fun b o e n _ => h2 b (Heap.lt_size e) n, fun b o e _ => let ⟨sl, q⟩ := (k1 b o e).2; ⟨_, q⟩, fun b _ e => h1 b _ e, fun b _ _ e => h1 b _ e, fun b ps e => ⟨#[], by rw [h1 b _ e]; simp⟩⟩
  have hok : HOk X.prog X.w H' s1.heap := fun a o e => by
    rcases h3 a o e with q | q
    · refine (I.hok a o q).stay (fun b u hb r => (k1 b u r).1 fun z => ?_) (fun b r => h1 b _ r) fun b xs r => h1 b _ r
      have n := I.stkFree b z
      rcases hb with hb | hb
      · rw [hb, q] at n; cases n
      · rw [hb] at n; cases n
    · exact q
  obtain ⟨hh, g, d, t, os'⟩ := s1
  obtain rfl : os' = s.os := k2
  exact I.call (h' := hh) (g' := g) (d' := d) (t' := t) (ch := []) un hok k3 (fun b z => absurd z (by simp))
theorem inv_SS0 (I : Inv X pins σ H s) (k : SS (frs X.stack) s s1) : Inv X pins σ H s1 := inv_SS I k (fun _ _ e => e) (fun _ _ n => n) fun _ _ e => .inl e
def Hn : Hp := fun _ => none
abbrev lamF (X : Cx) (params : Arguments) (scope : Scope) (c' : Addr) : NF := ⟨"<lambda>", X.env.qual ++ "<lambda>", params, [], scope, cloFrom X.env.cells scope.names [], c'⟩
theorem lam_call {params : Arguments} {body : Expr} {scope : Scope} {f c' : Addr} {pm ctv v : Value} {x : Str} {fr N : List Str} {js : List Nat} {k : Nat} {t : TE} {n m : Int} (I : Inv X pins σ H s)
    (hf : s.heap.get? f = some (PySem.W.kla_obj "<lambda>" (X.env.qual ++ "<lambda>") params body scope (cloFrom X.env.cells scope.names []) pm c' ctv)) (hfr : f ∉ frs X.stack) (hc : H c' = some (CodeO c' (X.env.qual ++ "<lambda>")))
    (S : NScope N [x] fr scope) (cp : X.Ok → Caps X (cloFrom X.env.cells scope.names []) fr js)
    (hbind : ∀ (q : Str) (cl : List (Str × Addr)) (pm cv ctv u : Value), bindArgs (PySem.W.kla_fn "<lambda>" q params body scope cl pm cv ctv) ⟨[u], []⟩ = pure [(x, u)]) (hr : Room (k + 3) X.A) (ks : SS (frs X.stack) s s1)
    (hbody : ∀ (A : Around) (outer : List Env) (z : Shared) (G : Hp), Room k (A.deeper (envF (lamF X params scope c') f z.heap.objs.size)) → PE (ncx CX0 X.prog X.w X.K X.mg X.base N (lamF X params scope c') f A outer z G E0) body t)
    (ht : ∀ Q : VK, Q (.int m) Hn → t (startF N [.int n] (js.map (slotAt σ))) Hn Q) (hv : ∃ t, v = .int n t) :
    wpAny (model X.prog X.w) X.A.in1.in1 (call (.ref f) [v]) (fun u s2 => (∃ t, u = .int m t) ∧ SS (frs X.stack) s1 s2) (fun _ _ => False) s1 := by
  have I1 := inv_SS0 I ks
  have of1 := (ks.1 f _ hf).1 hfr
  have en := I1.env0
  have e0 : Env0 X.prog X.w X.K X.mg X.base X.A.in1.in1 X.stack s1 Hn := ⟨en.frames, en.mod, fun b o q => ⟨(en.bs b o q).1, rfl⟩, en.bsz, en.funs, fun _ _ => rfl, (fun a o z => nomatch z), en.bare⟩
  have C0 := cells_of I1 (cp I1.ok)
  have C : CellsAt (cloFrom X.env.cells scope.names []) fr (js.map (slotAt σ)) s1.heap Hn := ⟨C0.len, fun y c e => ⟨rfl, (C0.all y c e).2⟩, C0.inj, C0.has⟩
  obtain ⟨⟨oc, vs, tt, hoc, hdc, hvc⟩, _, _⟩ := I1.hok c' _ hc
  have hr1 : Room (k + 1) X.A.in1.in1 := hr.in1.in1
  have rc : codeAny (model X.prog X.w) X.A.in1.in1 (.call (.ref f) ⟨[v], []⟩) (CR CX0 X.stack X.prog X.w Hn s1 (fun u _ => u = .int m) E0) s1 := by
    refine PySem.W.kla_callFunE hr1.depth of1 rfl S.co S.gen rfl ⟨c', oc, vs, tt, rfl, hoc, hdc, hvc⟩ ?_
    rw [hbind]
    refine wpAny_pure (wpAny_newFunctionEnv S.nocell (fun y hy => ?_) (fun h₁ hns hsb => ⟨I1.nolimit.fresh _ hsb, ?_⟩) S.kind)
    · have e : y = (x, v) := by simpa using hy
      rw [e]
      exact S.par x (by simp)
    · show codeAny _ _ (.expr body (envF (lamF X params scope c') f s1.heap.objs.size)) _ _
      have kp : ∀ b o, s1.heap.get? b = some o → h₁.get? b = some o := fun b o e => hsb.extBut b o (Nat.ne_of_lt (Heap.lt_size e)) (Heap.get?_push_of_some _ e)
      have J : Inv (ncx CX0 X.prog X.w X.K X.mg X.base N (lamF X params scope c') f X.A.in1.in1 X.stack s1 Hn E0) [] (startF N [.int n] (js.map (slotAt σ))) Hn { s1 with heap := h₁, toks := s1.toks + ([(x, v)] : List (Str × Value)).length } :=
        inv_startN (ps := [x]) (us := [v]) S hr1.hd e0 rfl (.cons hv .nil) C hns kp
      refine PySem.W.kla_codeExpr (wpAny_mono ((hbody _ _ s1 Hn (hr1.deeper _)).run [] _ _ Hn (fun u _ => u = .int m) J (ht (fun u _ => u = .int m) rfl)) (fun u z hq => ?_) fun e z hq => hq)
      obtain ⟨w', H', J', rv, q⟩ := hq
      exact ⟨w', H', J'.os, J'.bare, J'.base, J'.hok, rv, q⟩
  refine wpAny_call (codeAny_mono rc fun r z hq => ?_)
  match r, hq with
  | .error _, hq => exact hq.elim
  | .ok .next, hq => exact False.elim hq
  | .ok .brk, hq => exact False.elim hq
  | .ok .cont, hq => exact False.elim hq
  | .ok (.ret u), hq =>
    obtain ⟨u', H', e1, e2, un, _, rv, q⟩ := hq
    obtain rfl : u' = .int m := q
    exact ⟨rv, fun b o e => ⟨fun hb => un.keep b o e rfl hb (by simp), un.any e rfl (by simp)⟩, e1, e2⟩
/-! ### sorted(e, key=lambda x: ..) -/
def tSortLam (T : List (Addr × Str)) (K : PySem.W.Frag) (t : TE) (N : List Str) (js : List Nat) (te : TE) : TE := fun σ H Q => te σ H fun v H1 => ∃ (a : Addr) (ns : List Int) (g : Int → Int), [v] = [V.ref a] ∧ SqT K H1 a (ns.map V.int) ∧ Tabs T H1 ∧
  (∀ n ∈ ns, ∀ Q' : VK, Q' (.int (g n)) Hn → t (startF N [.int n] (js.map (slotAt σ))) Hn Q') ∧
  ∀ (H2 : Hp) (p : Addr) (ns' : List Int), ExtN H1 H2 → Tabs T H2 → H2 p = none → ns'.Perm ns → ns'.Pairwise (fun i j => g i ≤ g j) → Q (.ref p) (upd H2 p (.lst (ns'.map V.int)))
theorem ext_tup {K : PySem.W.Frag} {H1 H2 : Hp} {a : Addr} {xs : List V} (e : ExtN H1 H2) (h : SqT K H1 a xs) : SqT K H2 a xs := by
  rcases h with (h | ⟨o, h⟩) | h
  · exact .inl (.inl (e _ _ h (fun ps z => nomatch z)))
  · exact .inl (.inr ⟨o, e _ _ h (fun ps z => nomatch z)⟩)
  · exact .inr h
theorem each_ints : ∀ {us : List Value} {ns : List Int}, IntsAre us ns → PySem.W.EachIs (fun (v : Value) (n : Int) => ∃ t, v = .int n t) us ns
  | _, _, .nil => .nil
  | _, _, .cons n t r => .cons ⟨t, rfl⟩ (each_ints r)
theorem ints_eachV : ∀ {us : List Value} {ns : List Int}, PySem.W.EachIs (fun (v : Value) (n : Int) => ∃ t, v = .int n t) us ns → Vals (ns.map V.int) us
  | _, _, .nil => .nil
  | _, _, .cons r q => .cons r (ints_eachV q)
theorem int_le (g : Int → Int) : PySem.W.dataLe false (fun n => PyData.int (g n)) = fun i j => decide (g i ≤ g j) := by
  funext i j
  show (!PySem.W.dataLt (.int (g j)) (.int (g i))) = decide (g i ≤ g j)
  rw [PySem.W.dataLt_int]
  by_cases h : g i ≤ g j
  · rw [decide_eq_true h, decide_eq_false (by omega)]; rfl
  · rw [decide_eq_false h, decide_eq_true (by omega)]; rfl
theorem pe_sortLam {T : List (Addr × Str)} {c P : Addr} {e : Expr} {te t : TE} {params : Arguments} {body : Expr} {scope : Scope} {x : Str} {fr N : List Str} {js : List Nat} {k : Nat} {p pos lpos kpos : Pos} (ha : PA X [e] (tCons te tNil)) (hg : Gl X "sorted") (hm : X.mg "sorted" = none)
    (TB : TabB X.base X.mg c P) (hcode : X.env.code = .ref c) (hmT : (P, X.env.qual ++ "<lambda>") ∈ T) (hu : ∀ p ∈ T, p.1 = P → p.2 = X.env.qual ++ "<lambda>") (hdef : defaultsOf params X.env = ([], []))
    (S : NScope N [x] fr scope) (hfree : ∀ y ∈ scope.names, y.2 = .free → X.env.scope.names.lookup y.1 = some .cell ∨ X.env.scope.names.lookup y.1 = some .free) (cp : X.Ok → Caps X (cloFrom X.env.cells scope.names []) fr js)
    (hbind : ∀ (q : Str) (cl : List (Str × Addr)) (pm cv ctv u : Value), bindArgs (PySem.W.kla_fn "<lambda>" q params body scope cl pm cv ctv) ⟨[u], []⟩ = pure [(x, u)]) (hr : Room (k + 3) X.A)
    (hbody : ∀ (f c' : Addr) (A : Around) (outer : List Env) (z : Shared) (G : Hp), Room k (A.deeper (envF (lamF X params scope c') f z.heap.objs.size)) → PE (ncx CX0 X.prog X.w X.K X.mg X.base N (lamF X params scope c') f A outer z G E0) body t)
    (na : backTo pos (starEach [e] X.env) = (false, eval e X.env) :: backTo pos (starEach [] X.env) := by rfl) (hpl : (backTo pos (starEach [e] X.env)).any (·.1) = false := by rfl) :
    PE X (.Call (.Name "sorted" p) [e] [⟨some "key", .Lambda params body scope lpos, kpos⟩] pos) (tSortLam T X.K t N js te) := by
  refine ⟨fun pins s σ H Q I h => ?_⟩
  refine wpAny_Call_Name_kw (ld_blt I hg hm (show bootBuiltins "sorted" = some (.builtin "sorted") by decide +kernel) ?_ (by decide) (by decide))
  refine PyProof.Rows.callWith_kw (thn (ha.run pos pins s σ H (fun vs H1 => ∃ (a : Addr) (ns : List Int) (g : Int → Int), vs = [V.ref a] ∧ SqT X.K H1 a (ns.map V.int) ∧ Tabs T H1 ∧ (∀ n ∈ ns, ∀ Q' : VK, Q' (.int (g n)) Hn → t (startF N [.int n] (js.map (slotAt σ))) Hn Q') ∧
      ∀ (H2 : Hp) (p : Addr) (ns' : List Int), ExtN H1 H2 → Tabs T H2 → H2 p = none → ns'.Perm ns → ns'.Pairwise (fun i j => g i ≤ g j) → Q (.ref p) (upd H2 p (.lst (ns'.map V.int)))) I h) fun us s1 ⟨vs, H1, I1, r1, q1⟩ => ?_) na hpl (by rfl) (by rfl)
  obtain ⟨a, ns, g, ev, hT, tb, hk, q⟩ : ∃ (a : Addr) (ns : List Int) (g : Int → Int), vs = [.ref a] ∧ SqT X.K H1 a (ns.map V.int) ∧ Tabs T H1 ∧ (∀ n ∈ ns, ∀ Q' : VK, Q' (.int (g n)) Hn → t (startF N [.int n] (js.map (slotAt σ))) Hn Q') ∧
      ∀ (H2 : Hp) (p : Addr) (ns' : List Int), ExtN H1 H2 → Tabs T H2 → H2 p = none → ns'.Perm ns → ns'.Pairwise (fun i j => g i ≤ g j) → Q (.ref p) (upd H2 p (.lst (ns'.map V.int))) := q1
  subst ev
  rw [Vals.ref1 r1]
  show wpAny _ _ (evalAll ((do let v ← eval (.Lambda params body scope lpos) X.env; standAt pos; pure v) :: [])) _ _ s1
  refine wpAny_evalAll_cons (wpAny_bind (lam_make2 I1 TB hcode hmT hu tb hdef (fun y hy e => (hfree y hy e).elim (fun z => I1.ok.has _ (.inl z)) fun z => I1.ok.has _ (.inr z)) fun f c' pm ctv H2 s2 I2 eN T2 hf hfn hfr hco => wpAny_bind (wpAny_standAt (wpAny_pure (wpAny_evalAll_nil ?_)))))
  obtain ⟨its, rv, ht, hz⟩ := I2.tuple (ext_tup eN hT)
  have hI : IntsAre its ns := intsAre_of rv
  have hl : ns.length = its.length := by
    have := rv.length
    rw [List.length_map] at this
    exact this
  have hu0 := hr.un
  refine sortedT (fs := frs X.stack) (kz := ns.map g) (vs := its) (b := false) I2.bare (fun d hd => ?_) ht (by rw [List.length_map]; exact hl) (by rw [← rv.length]; exact hz) (by omega) (ksk_s1 _ _) (fun _ => ksk_l1 _ _) (fun y => ksk_t1 f y) (fun i v n hv hn s3 hs3 => ?_) (fun s3 out cc k3 n3 ko => ?_)
  · obtain ⟨_, o, ho, _⟩ := I2.stack.mem hd
    exact Heap.lt_size ho
  · rw [List.getElem?_map] at hn
    cases e : ns[i]? with
    | none => rw [e] at hn; cases hn
    | some m =>
      rw [e] at hn
      obtain rfl : g m = n := Option.some.inj hn
      have hvi : ∃ t, v = .int m t := by
        obtain ⟨u, hu1, hu2⟩ := Vals.get rv (show (ns.map V.int)[i]? = some (.int m) by rw [List.getElem?_map, e]; rfl)
        rw [hv] at hu1
        cases hu1
        exact hu2
      exact lam_call I2 hf hfr hco S cp hbind hr hs3 (fun A outer z G hrr => hbody f c' A outer z G hrr) (hk m (List.mem_of_getElem? e)) hvi
  · rw [List.map_map] at ko
    have eo := PySem.W.keyedOut_each (fun n => PyData.int (g n)) ko (each_ints hI)
    rw [int_le] at eo
    have vo := ints_eachV eo
    have nD : H2 (s2.heap.objs.size + 1) = none := I2.hok.fresh (Nat.le_succ _)
    have I3 : Inv X pins σ (upd H2 (s2.heap.objs.size + 1) (.lst ((ns.mergeSort fun i j => decide (g i ≤ g j)).map V.int))) s3 := by
      refine inv_SS I2 k3 (fun b o e => by rw [upd_ne (ne_of_none e nD)]; exact e) (fun b hb n => ?_) (fun b o e => ?_)
      · rw [upd_ne (Nat.ne_of_lt (Nat.lt_succ_of_lt hb))]
        exact n
      · by_cases eb : b = s2.heap.objs.size + 1
        · subst eb
          rw [upd_same] at e
          cases e
          refine .inr ⟨?_, out, cc, vo, n3⟩
          rw [List.length_map, (List.mergeSort_perm ns _).length_eq, hl, ← rv.length]
          exact hz
        · rw [upd_ne eb] at e
          exact .inl e
    refine ⟨.ref (s2.heap.objs.size + 1), _, I3, rfl, q H2 _ _ eN T2 nD (List.mergeSort_perm ns _) ?_⟩
    have := List.pairwise_mergeSort (le := fun i j => decide (g i ≤ g j)) (fun i j l h1 h2 => decide_eq_true (Int.le_trans (of_decide_eq_true h1) (of_decide_eq_true h2))) (fun i j => by
      rcases Int.le_total (g i) (g j) with h | h
      · simp [h]
      · simp [h]) ns
    exact this.imp fun h => of_decide_eq_true h
end
end Bf
namespace Bf
open PySem PySem.Spec PyProof.Rows L2
/-! ### bits of a number -/
def bl (n h : Nat) : List Nat := (List.range n).filter (fun k => h.testBit k)
theorem bl_succ (n h : Nat) : bl (n + 1) h = bl n h ++ (if h.testBit n = true then [n] else []) := by
  unfold bl
  rw [List.range_succ, List.filter_append]
  cases e : h.testBit n <;> simp [e]
theorem bl_ext {n h : Nat} (hh : h < 2 ^ n) : ∀ d, bl (n + d) h = bl n h
  | 0 => rfl
  | d + 1 => by
    have e : h.testBit (n + d) = false := Nat.testBit_lt_two_pow (Nat.lt_of_lt_of_le hh (Nat.pow_le_pow_right (by decide) (Nat.le_add_right n d)))
    rw [← Nat.add_assoc, bl_succ, bl_ext hh d, e]
    simp
theorem bl_eq {n m h : Nat} (hn : h < 2 ^ n) (hm : h < 2 ^ m) : bl n h = bl m h := by
  rcases Nat.le_total n m with l | l
  · obtain ⟨d, rfl⟩ := Nat.exists_eq_add_of_le l
    exact (bl_ext hn d).symm
  · obtain ⟨d, rfl⟩ := Nat.exists_eq_add_of_le l
    exact bl_ext hm d
theorem bl_len (n h : Nat) : (bl n h).length ≤ n := by
  have := List.length_filter_le (fun k => h.testBit k) (List.range n)
  rw [List.length_range] at this
  exact this
theorem bl_mem {n h i : Nat} (hn : h < 2 ^ n) : i ∈ bl n h ↔ h.testBit i = true := by
  unfold bl
  rw [List.mem_filter, List.mem_range]
  constructor
  · exact fun z => z.2
  · intro z
    refine ⟨Nat.lt_of_not_le fun l => ?_, z⟩
    rw [Nat.testBit_lt_two_pow (Nat.lt_of_lt_of_le hn (Nat.pow_le_pow_right (by decide) l))] at z
    cases z
theorem bl_lt {n h i : Nat} (hi : i ∈ bl n h) : i < n := List.mem_range.mp (List.mem_filter.mp hi).1
def fb (ks : List Nat) : Nat := ks.foldl (fun h k => h ||| 2 ^ k) 0
theorem fold_bit (i : Nat) : ∀ (ks : List Nat) (h : Nat), (ks.foldl (fun h k => h ||| 2 ^ k) h).testBit i = (h.testBit i || decide (i ∈ ks))
  | [], h => by simp
  | k :: ks, h => by
    rw [List.foldl_cons, fold_bit i ks, Nat.testBit_or, Nat.testBit_two_pow, Bool.or_assoc]
    congr 1
    by_cases e : i = k
    · subst e; simp
    · have e2 : ¬ k = i := fun z => e z.symm
      simp [e, e2]
theorem fb_eq {ks : List Nat} {h : Nat} (hm : ∀ i, i ∈ ks ↔ h.testBit i = true) : fb ks = h := by
  refine Nat.eq_of_testBit_eq fun i => ?_
  unfold fb
  rw [fold_bit, Nat.zero_testBit, Bool.false_or]
  cases e : h.testBit i with
  | true => exact decide_eq_true ((hm i).mpr e)
  | false => exact decide_eq_false fun z => by rw [(hm i).mp z] at e; cases e
theorem fb_take {ks : List Nat} {i k : Nat} (h : ks[i]? = some k) : fb (ks.take (i + 1)) = fb (ks.take i) ||| 2 ^ k := by
  unfold fb
  rw [List.take_add_one, h]
  simp [List.foldl_append]
theorem fb_lt {ks : List Nat} {n : Nat} (hk : ∀ k ∈ ks, k < n) : fb ks < 2 ^ n := by
  refine Nat.lt_pow_two_of_testBit _ fun i hi => ?_
  unfold fb
  rw [fold_bit, Nat.zero_testBit, Bool.false_or]
  exact decide_eq_false fun z => by have := hk i z; omega
theorem intBits_nat {h : Nat} : h < 2 ^ (Builtin.Int.intBits (h : Int)) := by
  unfold Builtin.Int.intBits
  by_cases e : h = 0
  · subst e
    decide
  · rw [if_neg (by simpa using e)]
    have := Nat.lt_log2_self (n := h)
    simpa using this
theorem intBits_le60 {h n : Nat} (hh : h < 2 ^ n) : Builtin.Int.intBits (h : Int) ≤ n := PyProof.Rows.intBits_le (by simpa using hh)
/-! ### numbers as data -/
def nv (ns : List Nat) : List V := ns.map fun (n : Nat) => V.int (n : Int)
def nd' (ns : List Nat) : List PyData := ns.map fun (n : Nat) => PyData.int (n : Int)
theorem nv_at {ns : List Nat} {i n : Nat} (h : ns[i]? = some n) : (nv ns)[i]? = some (.int (n : Int)) := by
  unfold nv
  rw [List.getElem?_map, h]
  rfl
theorem nv_len (ns : List Nat) : (nv ns).length = ns.length := List.length_map ..
theorem dp_nv {K : PySem.W.Frag} {H : Hp} : ∀ ns : List Nat, DpAll K H (nv ns) (nd' ns)
  | [] => .nil
  | n :: ns => .cons (.int _) (dp_nv ns)
theorem nd_show : ∀ ns : List Nat, (∀ n ∈ ns, n < 2 ^ 61) → PyData.showableAll (nd' ns) = true
  | [], _ => rfl
  | n :: ns, h => by
    have h1 : n < 2 ^ 61 := h n List.mem_cons_self
    have e : n.log2 < 1920 := by
      by_cases z : n = 0
      · subst z; decide
      · exact Nat.lt_of_lt_of_le ((Nat.log2_lt z).mpr h1) (by decide)
    show (decide ((n : Int).natAbs.log2 < 1920) && PyData.showableAll (nd' ns)) = true
    rw [nd_show ns fun m hm => h m (List.mem_cons_of_mem _ hm), Bool.and_true]
    exact decide_eq_true (by simpa using e)
theorem nd_dict : ∀ ns : List Nat, PyData.hasDictAll (nd' ns) = false
  | [] => rfl
  | n :: ns => nd_dict ns
theorem nd_depth : ∀ ns : List Nat, PyData.depthAll (nd' ns) ≤ 1
  | [] => by simp [nd', PyData.depthAll]
  | n :: ns => by
    have := nd_depth ns
    show max _ (PyData.depthAll (nd' ns)) ≤ 1
    simp only [PyData.depth]
    omega
theorem nd_leaves : ∀ ns : List Nat, (∀ n ∈ ns, n < 2 ^ 61) → PyData.leavesShortAll 64 (nd' ns) = true
  | [], _ => rfl
  | n :: ns, h => by
    have h1 : n < 2 ^ 61 := h n List.mem_cons_self
    show (decide ((PyData.shown (.int (n : Int))).length ≤ 64) && PyData.leavesShortAll 64 (nd' ns)) = true
    rw [nd_leaves ns fun m hm => h m (List.mem_cons_of_mem _ hm), Bool.and_true]
    have h2 : (n : Int) < 10 ^ 19 := by omega
    exact decide_eq_true (Nat.le_trans (toString_length_le (v := (n : Int)) (by omega) (k := 19) (by decide) h2) (by decide))
theorem nd_weight : ∀ ns : List Nat, (∀ n ∈ ns, n < 2 ^ 61) → PyData.weightAll (nd' ns) ≤ 63 * ns.length
  | [], _ => Nat.le_refl _
  | n :: ns, h => by
    have h1 : n < 2 ^ 61 := h n List.mem_cons_self
    have ih := nd_weight ns fun m hm => h m (List.mem_cons_of_mem _ hm)
    have e : PyData.weight (.int (n : Int)) ≤ 62 := by
      simp only [PyData.weight]
      by_cases z : n = 0
      · subst z; decide
      · have := (Nat.log2_lt z).mpr h1
        rw [if_neg (by simpa using z)]
        simp
        omega
    show PyData.weight (.int (n : Int)) + 1 + PyData.weightAll (nd' ns) ≤ 63 * (ns.length + 1)
    omega
theorem nd_len {ns : List Nat} (h : ∀ n ∈ ns, n < 2 ^ 61) (hl : ns.length ≤ 1000) : (PyData.tuple (nd' ns)).shown.length ≤ sizeLine := by
  have h1 := PyData.shown_le 64 (by decide) (.tuple (nd' ns)) (nd_leaves ns h)
  have h2 : PyData.weight (.tuple (nd' ns)) ≤ 63 * ns.length := nd_weight ns h
  rw [sizeLine_eq]
  have h3 : (64 + 2) * PyData.weight (.tuple (nd' ns)) ≤ 66 * (63 * 1000) := Nat.mul_le_mul (by decide) (by omega)
  omega
end Bf
namespace Bf
open PySem PySem.Spec PyProof.Rows L2
/-! ### round orders -/
def rb (q h j : Nat) : List Nat := ((List.range q).map fun i => (j + i) % q).filter fun k => h.testBit k
def ar (q j k : Nat) : Int := ((k : Int) - (j : Int)) % (q : Int)
theorem ar_at {q i : Nat} (j : Nat) (hi : i < q) : ar q j ((j + i) % q) = (i : Int) := by
  unfold ar
  rw [Int.natCast_emod, Int.emod_sub_emod, Int.natCast_add, show (j : Int) + i - j = i by omega]
  exact Int.emod_eq_of_lt (by omega) (by omega)
theorem at_of {q x : Nat} (j : Nat) (hx : x < q) : ∃ i, i < q ∧ (j + i) % q = x := by
  have hq : 0 < q := by omega
  refine ⟨(x + (q - j % q)) % q, Nat.mod_lt _ hq, ?_⟩
  have hj : j % q < q := Nat.mod_lt _ hq
  rw [Nat.add_mod, Nat.mod_mod, ← Nat.add_mod]
  have e : j + (x + (q - j % q)) = x + q * (j / q + 1) := by
    have := Nat.div_add_mod j q
    rw [Nat.mul_add, Nat.mul_one]
    omega
  rw [e, Nat.add_mul_mod_self_left]
  exact Nat.mod_eq_of_lt hx
theorem mem_rb {q h j x : Nat} : x ∈ rb q h j ↔ x < q ∧ h.testBit x = true := by
  unfold rb
  rw [List.mem_filter, List.mem_map]
  constructor
  · rintro ⟨⟨i, hi, rfl⟩, hb⟩
    have hi := List.mem_range.mp hi
    exact ⟨Nat.mod_lt _ (by omega), hb⟩
  · rintro ⟨hx, hb⟩
    obtain ⟨i, hi, e⟩ := at_of j hx
    exact ⟨⟨i, List.mem_range.mpr hi, e⟩, hb⟩
theorem rb_len (q h j : Nat) : (rb q h j).length ≤ q := by
  have h1 := List.length_filter_le (fun k => h.testBit k) ((List.range q).map fun i => (j + i) % q)
  rw [List.length_map, List.length_range] at h1
  exact h1
theorem rb_sorted (q h j : Nat) : (rb q h j).Pairwise (fun a b => ar q j a < ar q j b) := by
  unfold rb
  refine List.Pairwise.filter _ ?_
  rw [List.pairwise_map]
  refine (List.pairwise_lt_range).imp_of_mem fun {a b} ha hb hab => ?_
  rw [ar_at j (List.mem_range.mp ha), ar_at j (List.mem_range.mp hb)]
  omega
theorem ar_inj {q j a b : Nat} (ha : a < q) (hb : b < q) (h : ar q j a = ar q j b) : a = b := by
  obtain ⟨i, hi, rfl⟩ := at_of j ha
  obtain ⟨k, hk, rfl⟩ := at_of j hb
  rw [ar_at j hi, ar_at j hk] at h
  have : i = k := by omega
  rw [this]
theorem uniq_sorted {α : Type} {key : α → Int} : ∀ {l m : List α}, l.Pairwise (fun a b => key a < key b) → m.Pairwise (fun a b => key a < key b) → (∀ x, x ∈ l ↔ x ∈ m) → l = m
  | [], [], _, _, _ => rfl
  | [], b :: m, _, _, h => absurd ((h b).mpr List.mem_cons_self) List.not_mem_nil
  | a :: l, [], _, _, h => absurd ((h a).mp List.mem_cons_self) List.not_mem_nil
  | a :: l, b :: m, hl, hm, h => by
    obtain ⟨l1, l2⟩ := List.pairwise_cons.mp hl
    obtain ⟨m1, m2⟩ := List.pairwise_cons.mp hm
    have e : a = b := by
      rcases List.mem_cons.mp ((h a).mp List.mem_cons_self) with e | ea
      · exact e
      · rcases List.mem_cons.mp ((h b).mpr List.mem_cons_self) with e | eb
        · exact e.symm
        · have x1 := m1 a ea
          have x2 := l1 b eb
          omega
    subst e
    congr 1
    refine uniq_sorted l2 m2 fun x => ⟨fun hx => ?_, fun hx => ?_⟩
    · rcases List.mem_cons.mp ((h x).mp (List.mem_cons_of_mem _ hx)) with e | e
      · subst e
        exact absurd (l1 x hx) (Int.lt_irrefl _)
      · exact e
    · rcases List.mem_cons.mp ((h x).mpr (List.mem_cons_of_mem _ hx)) with e | e
      · subst e
        exact absurd (m1 x hx) (Int.lt_irrefl _)
      · exact e
theorem bl_nodup (n h : Nat) : (bl n h).Nodup := List.Pairwise.filter _ List.nodup_range
theorem rb_eq {q h j : Nat} {rs : List Nat} (hq : q ≤ 60) (hh : h < 2 ^ q) (hp : rs.Perm (bl 60 h)) (hs : rs.Pairwise fun a b => ar q j a ≤ ar q j b) : rs = rb q h j := by
  have h60 : h < 2 ^ 60 := Nat.lt_of_lt_of_le hh (Nat.pow_le_pow_right (by decide) hq)
  have hlt : ∀ x ∈ rs, x < q := fun x hx => by
    have hx2 := (bl_mem h60).mp (hp.mem_iff.mp hx)
    exact Nat.lt_of_not_le fun l => by
      rw [Nat.testBit_lt_two_pow (Nat.lt_of_lt_of_le hh (Nat.pow_le_pow_right (by decide) l))] at hx2
      cases hx2
  have nd : rs.Nodup := hp.nodup_iff.mpr (bl_nodup 60 h)
  have st : rs.Pairwise fun a b => ar q j a < ar q j b := by
    have := List.Pairwise.and hs nd
    refine this.imp_of_mem fun {a b} ha hb hab => ?_
    have hne : ar q j a ≠ ar q j b := fun e => hab.2 (ar_inj (hlt a ha) (hlt b hb) e)
    have := hab.1
    omega
  refine uniq_sorted st (rb_sorted q h j) fun x => ?_
  rw [hp.mem_iff, bl_mem h60, mem_rb]
  constructor
  · exact fun hb => ⟨hlt x (hp.mem_iff.mpr ((bl_mem h60).mpr hb)), hb⟩
  · exact fun z => z.2
theorem rb_mod {q h j : Nat} : rb q h (j % q) = rb q h j := by
  unfold rb
  congr 1
  refine List.map_congr_left fun i _ => ?_
  rw [Nat.add_mod, Nat.mod_mod, ← Nat.add_mod]
theorem rb_mods {q h j k : Nat} (e : j % q = k % q) : rb q h j = rb q h k := by
  rw [← rb_mod (j := j), e, rb_mod]
/-- a ring turned -/
def tw (q by' : Nat) (ks : List Nat) : List Nat := ks.map fun s => (s + by') % q
theorem turn_inj {q a b by' : Nat} (ha : a < q) (hb : b < q) (h : (a + by') % q = (b + by') % q) : a = b := by
  have h1 : ar q by' ((by' + a) % q) = a := ar_at by' ha
  have h2 : ar q by' ((by' + b) % q) = b := ar_at by' hb
  rw [Nat.add_comm by' a, h, Nat.add_comm b by', h2] at h1
  omega
theorem twin_bit {q one by' x : Nat} (hq : q ≤ 60) (hh : one < 2 ^ q) (hx : x < q) : (fb (tw q by' (bl 60 one))).testBit ((x + by') % q) = one.testBit x := by
  have h60 : one < 2 ^ 60 := Nat.lt_of_lt_of_le hh (Nat.pow_le_pow_right (by decide) hq)
  unfold fb
  rw [fold_bit, Nat.zero_testBit, Bool.false_or]
  cases e : one.testBit x with
  | true => exact decide_eq_true (List.mem_map.mpr ⟨x, (bl_mem h60).mpr e, rfl⟩)
  | false =>
    refine decide_eq_false fun z => ?_
    obtain ⟨y, hy, ey⟩ := List.mem_map.mp z
    have hy2 := (bl_mem h60).mp hy
    have hyq : y < q := Nat.lt_of_not_le fun l => by
      rw [Nat.testBit_lt_two_pow (Nat.lt_of_lt_of_le hh (Nat.pow_le_pow_right (by decide) l))] at hy2
      cases hy2
    rw [turn_inj hyq hx ey, e] at hy2
    cases hy2
theorem twin_lt {q one by' : Nat} (hq : 0 < q) : fb (tw q by' (bl 60 one)) < 2 ^ q := fb_lt fun k hk => by
  obtain ⟨y, _, rfl⟩ := List.mem_map.mp hk
  exact Nat.mod_lt _ hq
theorem rb_turn {q one by' s : Nat} (hq0 : 0 < q) (hq : q ≤ 60) (hh : one < 2 ^ q) : rb q (fb (tw q by' (bl 60 one))) (s + by') = tw q by' (rb q one s) := by
  unfold rb tw
  have e : (List.range q).map (fun i => (s + by' + i) % q) = ((List.range q).map fun i => (s + i) % q).map fun k => (k + by') % q := by
    rw [List.map_map]
    refine List.map_congr_left fun i _ => ?_
    show (s + by' + i) % q = ((s + i) % q + by') % q
    rw [Nat.mod_add_mod]
    congr 1
    omega
  rw [e, List.filter_map]
  congr 1
  refine List.filter_congr fun x hx => ?_
  obtain ⟨i, _, rfl⟩ := List.mem_map.mp hx
  exact twin_bit hq hh (Nat.mod_lt _ hq0)
end Bf
namespace Bf
open PySem PySem.Spec PyProof.Rows L2
/-! ### heaps -/
def Keeps (a : Addr) (H H' : Hp) : Prop := ∀ b o, b ≠ a → H b = some o → H' b = some o
theorem Keeps.refl (a : Addr) (H : Hp) : Keeps a H H := fun _ _ _ h => h
theorem Keeps.trans {a : Addr} {H H1 H2 : Hp} (x : Keeps a H H1) (y : Keeps a H1 H2) : Keeps a H H2 := fun b o n h => y b o n (x b o n h)
theorem Keeps.new {a p : Addr} {H H1 : Hp} {o : HO} (x : Keeps a H H1) (h : H1 p = none) : Keeps a H (upd H1 p o) := fun b u n e => by
  have e1 := x b u n e
  rw [upd_ne (ne_of_none e1 h)]
  exact e1
theorem Keeps.at {a : Addr} {H H1 : Hp} {o : HO} (x : Keeps a H H1) : Keeps a H (upd H1 a o) := fun b u n e => by
  rw [upd_ne n]
  exact x b u n e
theorem Keeps.of_same {a : Addr} {H H1 : Hp} (x : Same H H1) : Keeps a H H1 := fun b u _ e => x b u e
theorem same_new {H H1 : Hp} {p : Addr} {o : HO} (x : Same H H1) (h : H1 p = none) : Same H (upd H1 p o) := fun b u e => by
  have e1 := x b u e
  rw [upd_ne (ne_of_none e1 h)]
  exact e1
/-- an expression that gives v, the heap as it was -/
def Gives (t : TE) (σ : L2.St) (H : Hp) (v : V) : Prop := ∀ Q : VK, Q v H → t σ H Q
theorem rd_ifI {tt : TT} {ta tb : TE} {σ : L2.St} {H : Hp} {Q : VK} (b : Bool) (P : Int → Prop) (h0 : ∀ Q' : Bool → Hp → Prop, Q' b H → tt σ H Q') (h1 : b = true → ∃ c : Int, P c ∧ Gives ta σ H (.int c)) (h2 : b = false → ∃ c : Int, P c ∧ Gives tb σ H (.int c))
    (h : ∀ c : Int, P c → Q (.int c) H) : tIf tt ta tb σ H Q := by
  refine h0 _ ?_
  cases b with
  | true => obtain ⟨c, hp, hc⟩ := h1 rfl; exact iteT (hc _ (h c hp))
  | false => obtain ⟨c, hp, hc⟩ := h2 rfl; exact iteF (hc _ (h c hp))
/-- the pot: three numbers at a; n counts what was drawn -/
def Pot (H : Hp) (a : Addr) (n : Nat) : Prop := ∃ x y z : Int, H a = some (.lst [.int x, .int y, .int z]) ∧ 0 ≤ x ∧ 0 ≤ y ∧ y < 2305843009213693952 ∧ 0 ≤ z ∧ z ≤ n
theorem Pot.up {H : Hp} {a : Addr} {n m : Nat} (h : Pot H a n) (l : n ≤ m) : Pot H a m := let ⟨x, y, z, h1, h2, h3, h4, h5, h6⟩ := h; ⟨x, y, z, h1, h2, h3, h4, h5, by omega⟩
theorem Pot.new {H : Hp} {a p : Addr} {n : Nat} {o : HO} (h : Pot H a n) (hp : H p = none) : Pot (upd H p o) a n := let ⟨x, y, z, h1, h2⟩ := h; ⟨x, y, z, by rw [upd_ne (ne_of_none h1 hp)]; exact h1, h2⟩
theorem Pot.same {H H' : Hp} {a : Addr} {n : Nat} (h : Pot H a n) (s : Same H H') : Pot H' a n := let ⟨x, y, z, h1, h2⟩ := h; ⟨x, y, z, s _ _ h1, h2⟩

theorem primes4 (n : Int) (h0 : 0 ≤ n) (h : n < 4) : ∃ v : Int, atI [V.int 2305843009213693951, .int 999999999989, .int 1000000000039, .int 67280421310721] n = some (.int v) ∧ 0 < v := by
  obtain ⟨m, rfl⟩ := Int.eq_ofNat_of_zero_le h0
  match m, h with
  | 0, _ => exact ⟨_, rfl, by decide⟩
  | 1, _ => exact ⟨_, rfl, by decide⟩
  | 2, _ => exact ⟨_, rfl, by decide⟩
  | 3, _ => exact ⟨_, rfl, by decide⟩
theorem nat_of {i : Int} {n : Nat} (h0 : 0 ≤ i) (h : i < n) : ∃ r : Nat, i = (r : Int) ∧ r < n := ⟨i.toNat, by omega, by omega⟩
/-! ### numbers that are not negative -/
theorem op_orN {X : Cx} : OpR X (binaryOp .BitOr) (fun x y H Q => ∃ n m : Nat, x = .int (n : Int) ∧ y = .int (m : Int) ∧ Q (.int ((n ||| m : Nat) : Int)) H) := by
  intro pins s σ H x y v u Q I rx ry h
  obtain ⟨n, m, rfl, rfl, q⟩ := h
  refine op_or pins s σ H _ _ v u Q I rx ry ⟨(n : Int), (m : Int), rfl, rfl, ?_⟩
  show Q (.int (Builtin.bitOr (n : Int) (m : Int))) H
  rw [bitOr_nn (Int.natCast_nonneg n) (Int.natCast_nonneg m)]
  exact q
theorem op_bit {X : Cx} : OpR X (binaryOp .LShift) (fun x y H Q => ∃ k : Nat, x = .int 1 ∧ y = .int (k : Int) ∧ k ≤ 134217727 ∧ Q (.int ((2 ^ k : Nat) : Int)) H) := by
  intro pins s σ H x y v u Q I rx ry h
  obtain ⟨k, rfl, rfl, hk, q⟩ := h
  refine op_oneShl pins s σ H _ _ v u Q I rx ry ⟨k, rfl, rfl, hk, ?_⟩
  rw [Int.natCast_pow] at q
  exact q
theorem op_shrNN {X : Cx} : OpR X (binaryOp .RShift) (fun x y H Q => ∃ n m : Nat, x = .int (n : Int) ∧ y = .int (m : Int) ∧ Q (.int ((n / 2 ^ m : Nat) : Int)) H) := by
  intro pins s σ H x y v u Q I rx ry h
  obtain ⟨n, m, rfl, rfl, q⟩ := h
  refine op_shrN pins s σ H _ _ v u Q I rx ry ⟨(n : Int), m, rfl, rfl, ?_⟩
  rw [Int.natCast_ediv, Int.natCast_pow] at q
  exact q
theorem iop_orN {X : Cx} : OpR X (inplaceOp .BitOr) (fun x y H Q => ∃ n m : Nat, x = .int (n : Int) ∧ y = .int (m : Int) ∧ Q (.int ((n ||| m : Nat) : Int)) H) := by
  intro pins s σ H x y v u Q I rx ry h
  obtain ⟨n, m, rfl, rfl, q⟩ := h
  refine iop_or pins s σ H _ _ v u Q I rx ry ⟨(n : Int), (m : Int), rfl, rfl, ?_⟩
  show Q (.int (Builtin.bitOr (n : Int) (m : Int))) H
  rw [bitOr_nn (Int.natCast_nonneg n) (Int.natCast_nonneg m)]
  exact q
section
variable {K : PySem.W.Frag} {f : Addr} {fd : FuncData}
/-! ### tuples that expressions give -/
theorem sameT {H H' : Hp} {a : Addr} {xs : List V} (e : Same H H') (h : SqT K H a xs) : SqT K H' a xs := by
  rcases h with (h | ⟨o, h⟩) | h
  · exact .inl (.inl (e _ _ h))
  · exact .inl (.inr ⟨o, e _ _ h⟩)
  · exact .inr h
def GT (K : PySem.W.Frag) (t : TE) (σ : L2.St) (H : Hp) (vs : List V) : Prop := ∀ H1, Same H H1 → ∀ Q : VK, (∀ H2 x, Same H1 H2 → SqT K H2 x vs → Q (.ref x) H2) → t σ H1 Q
theorem gt_var {i : Nat} {σ : L2.St} {H : Hp} {b : Addr} {vs : List V} (h : SqT K H b vs) (hi : σ[i]? = some (some (.ref b))) : GT K (tVar i) σ H vs := fun H1 s Q q => ⟨_, hi, q H1 b (Same.refl _) (sameT s h)⟩
theorem gt_rev {te : TE} {σ : L2.St} {H : Hp} {vs : List V} (h : GT K te σ H vs) : GT K (tRevT K te) σ H vs.reverse := fun H1 s Q q => h H1 s _ fun H2 x s2 hx =>
  ⟨x, vs, rfl, hx, fun p np => q _ p (same_new s2 np) (.inl (.inl upd_same))⟩
theorem gt_tup {te : TE} {σ : L2.St} {H : Hp} {i : Nat} {b : Addr} {vs : List V} (h : SqL K H b vs) (hi : σ[i]? = some (some (.ref b))) :
    GT K (tCB (fun xs H Q => ∃ p ys, xs = [.ref p] ∧ ((SqL K H p ys ∧ ∀ l, H l = none → Q (.ref l) (upd H l (.tup ys))) ∨ (SqT K H p ys ∧ Q (.ref p) H))) (tCons (tVar i) tNil)) σ H vs := fun H1 s Q q =>
  ⟨_, hi, b, vs, rfl, .inl ⟨s.seq h, fun p np => q _ p (same_new (Same.refl _) np) (.inl (.inl upd_same))⟩⟩
theorem gt_cut {te : TE} {σ : L2.St} {H : Hp} {vs : List V} {n : Nat} (h : GT K te σ H vs) : GT K (tSl (rSlA K) te tNoPart (tPart (tC (.int (n : Int))))) σ H (vs.take n) := fun H1 s Q q => h H1 s _ fun H2 x s2 hx => by
  refine ⟨_, rfl, x, vs, rfl, hx, fun w => ?_, fun w p np => ?_⟩
  · have e : vs.take n = vs := List.take_of_length_le (by
      have := w.2
      rw [HT.sIx_nat] at this
      omega)
    exact q H2 x s2 (by rw [e]; exact hx)
  · have e : cutV vs none (some (n : Int)) = vs.take n := by
      unfold cutV
      rw [HT.sIx_none, HT.sIx_nat, List.drop_zero, Nat.sub_zero]
      rcases Nat.le_total n vs.length with l | l
      · rw [Nat.min_eq_left l]
      · rw [Nat.min_eq_right l, List.take_of_length_le l, List.take_length]
    rw [e]
    exact q _ p (same_new s2 np) (.inl (.inl upd_same))
theorem gt_cat {ta tb : TE} {σ : L2.St} {H : Hp} {xs ys : List V} (ha : GT K ta σ H xs) (hb : GT K tb σ H ys) (hz : xs.length + ys.length ≤ sizeLine) : GT K (tOp (rCatA K) ta tb) σ H (xs ++ ys) := fun H1 s Q q => ha H1 s _ fun H2 x s2 hx =>
  hb H2 (s.trans s2) _ fun H3 y s3 hy => by
    refine ⟨x, y, xs, ys, rfl, rfl, sameT s3 hx, hy, hz, fun e => ?_, fun _ e => ?_, fun _ _ p np => ?_⟩
    · exact q H3 y (s2.trans s3) (by rw [e]; exact hy)
    · exact q H3 x (s2.trans s3) (by rw [e, List.append_nil]; exact sameT s3 hx)
    · exact q _ p (same_new (s2.trans s3) np) (.inl (.inl upd_same))
theorem gt_rep {ta : TE} {σ : L2.St} {H : Hp} {xs : List V} {n : Nat} (ha : GT K ta σ H xs) (h2 : 2 ≤ n) (h1 : n ≤ 1000) (hz : xs.length ≤ 1000) : GT K (tOp (rRepA K) ta (tC (.int (n : Int)))) σ H (List.replicate n xs).flatten := fun H1 s Q q => ha H1 s _ fun H2 x s2 hx => by
  refine ⟨x, n, xs, rfl, rfl, hx, by omega, by omega, hz, fun e => ?_, fun _ p np => ?_⟩
  · have e2 : (List.replicate n xs).flatten = xs := by
      subst e
      simp
    exact q H2 x s2 (by rw [e2]; exact hx)
  · exact q _ p (same_new s2 np) (.inl (.inl upd_same))
theorem nv_rev (ks : List Nat) : (nv ks).reverse = nv ks.reverse := by unfold nv; rw [List.map_reverse]
theorem nv_take (ks : List Nat) (n : Nat) : (nv ks).take n = nv (ks.take n) := by unfold nv; rw [List.map_take]
theorem nv_app (ks js : List Nat) : nv ks ++ nv js = nv (ks ++ js) := by unfold nv; rw [List.map_append]
theorem nv_rep (ks : List Nat) (n : Nat) : (List.replicate n (nv ks)).flatten = nv (List.replicate n ks).flatten := by unfold nv; rw [List.map_flatten, List.map_replicate]
theorem mem_rep {ks : List Nat} {n x : Nat} : x ∈ (List.replicate (n + 1) ks).flatten ↔ x ∈ ks := by
  constructor
  · intro h
    obtain ⟨l, hl, hx⟩ := List.mem_flatten.mp h
    rw [List.eq_of_mem_replicate hl] at hx
    exact hx
  · exact fun h => List.mem_flatten.mpr ⟨ks, List.mem_replicate.mpr ⟨by omega, rfl⟩, h⟩
theorem same_keeps {H H0 H' : Hp} {p : Addr} (hp : H p = none) (s : Same H H0) (k : Keeps p H0 H') : Same H H' := fun b o e => k b o (ne_of_none e hp) (s b o e)
theorem dp_tup {H : Hp} {a : Addr} {ns : List Nat} (h : SqT K H a (nv ns)) : Dp K H (.ref a) (.tuple (nd' ns)) := .tup h (dp_nv ns)
theorem nd_canAll : ∀ ns : List Nat, PyData.canLayAll0 (nd' ns) = true
  | [] => rfl
  | n :: ns => nd_canAll ns
theorem nd_can (ns : List Nat) : PyData.canLay0 (.tuple (nd' ns)) = true := nd_canAll ns
theorem nd_dep (ns : List Nat) : PyData.depth (.tuple (nd' ns)) ≤ 2 := by
  have := nd_depth ns
  show PyData.depthAll (nd' ns) + 1 ≤ 2
  omega
theorem nd_shaped (ns : List Nat) : SeqAt.shaped (.tuple (nd' ns)) = true := by
  unfold SeqAt.shaped
  rw [nd_can, Bool.true_and]
  exact decide_eq_true (Nat.le_trans (nd_dep ns) (by decide))
theorem bl_small {n h i : Nat} (hn : n ≤ 60) (hi : i ∈ bl n h) : i < 2 ^ 61 := Nat.lt_trans (Nat.lt_of_lt_of_le (bl_lt hi) hn) (by decide)
theorem log_small {n : Nat} (h : n < 2 ^ 61) : (n : Int).natAbs.log2 < 1920 := by
  by_cases z : n = 0
  · subst z; decide
  · have := (Nat.log2_lt z).mpr h
    simpa using (Nat.lt_of_lt_of_le this (by decide) : n.log2 < 1920)
theorem kb1 {x n : Str} {st : Stmt} (F : Fun K x x st f fd) (h1 : ∀ (kV doc pm : Value) (an : Option Addr) (cdv ct u : Value), bindArgs (PySem.W.fnOf x x (defArgs st) (defBody st) (defScope st) .none kV doc pm an cdv ct) ⟨[], [(n, u)]⟩ = pure [(n, u)])
    (h2 : ∀ (kV doc pm : Value) (an : Option Addr) (cdv ct u : Value), bindArgs (PySem.W.fnOf x x (defArgs st) (defBody st) (defScope st) .none kV doc pm an cdv ct) ⟨[u], []⟩ = pure [(n, u)]) : KBinds K fd [n] [n] (fun us ws => us ++ ws) (fun vs zs => vs ++ zs) := by
  obtain ⟨oc, od, kV, doc, pm, an, cdv, ct, osl, rfl, lk, hcd⟩ := F.ex
  refine ⟨fun s us ws _ hl => ?_, fun r1 r2 => r1.append r2⟩
  match us, ws, hl with
  | [], [u], _ => exact .of_eq (h1 kV doc pm an cdv ct u)
  | [u], [], _ => exact .of_eq (h2 kV doc pm an cdv ct u)
  | [], [], hl => cases hl
  | [], _ :: _ :: _, hl => exact absurd (Nat.succ.inj hl) (by simp)
  | [_], _ :: _, hl => exact absurd (Nat.succ.inj hl) (by simp)
  | _ :: _ :: _, _, hl => exact absurd (Nat.succ.inj hl) (by simp)
end
/-- where a def of the top stands -/
structure DefAt (K : PySem.W.Frag) (x : Str) (st : Stmt) (f : Addr) : Prop where
  at_ : PySem.W.nsIn K mainGlobals x = some (some (.ref f))
  fn : ∃ fd, Fun K x x st f fd
theorem mkD {K : PySem.W.Frag} {x : Str} {st : Stmt} {f : Addr} {oc kV doc pm cdv ct : Value} {od an : Option Addr} {osl : Array (Option Value)} (a : PySem.W.nsIn K mainGlobals x = some (some (.ref f)))
    (l : K.lookup f = some ⟨oc, od, .func (PySem.W.fnOf x x (defArgs st) (defBody st) (defScope st) .none kV doc pm an cdv ct), osl⟩) (c : PySem.W.codeIn K cdv x = true) (k : PySem.W.keepIn K (.ref f) = true) : DefAt K x st f := ⟨a, _, fun_mk (st := st) l c k⟩

/-! ### tables and pots -/
open LamX NdefX
def KT (a : Addr) (H H' : Hp) : Prop := ∀ b o, b ≠ a → H b = some o → (∀ ps, o ≠ .tbl ps) → H' b = some o
theorem KT.refl (a : Addr) (H : Hp) : KT a H H := fun _ _ _ h _ => h
theorem KT.trans {a : Addr} {H H1 H2 : Hp} (x : KT a H H1) (y : KT a H1 H2) : KT a H H2 := fun b o n h t => y b o n (x b o n h t) t
theorem KT.k {a : Addr} {H H1 : Hp} (x : Keeps a H H1) : KT a H H1 := fun b o n h _ => x b o n h
theorem KT.e {a : Addr} {H H1 : Hp} (x : ExtN H H1) : KT a H H1 := fun b o _ h t => x b o h t
theorem ExtN.s {H H1 : Hp} (x : Same H H1) : ExtN H H1 := ExtN.of x
theorem Pot.ext {H H' : Hp} {a : Addr} {n : Nat} (h : Pot H a n) (s : ExtN H H') : Pot H' a n := let ⟨x, y, z, h1, h2⟩ := h; ⟨x, y, z, s _ _ h1 (fun ps z => nomatch z), h2⟩
theorem tabs_keeps {T : List (Addr × Str)} {H H' : Hp} {a : Addr} {m : Nat} (p : Pot H a m) (t : Tabs T H) (k : Keeps a H H') : Tabs T H' := fun q hq => by
  obtain ⟨x, y, z, hH, _⟩ := p
  obtain ⟨ps, h1, h2, h3⟩ := t q hq
  refine ⟨ps, k _ _ (fun e => ?_) h1, h2, fun pos cv hc => ?_⟩
  · rw [e, hH] at h1
    cases h1
  · obtain ⟨c, e1, e2⟩ := h3 pos cv hc
    refine ⟨c, e1, k _ _ (fun e => ?_) e2⟩
    rw [e, hH] at e2
    unfold CodeO at e2
    cases e2
theorem ext_new {H H1 : Hp} {p : Addr} {o : HO} (x : ExtN H H1) (h : H1 p = none) : ExtN H (upd H1 p o) := fun b u e t => by
  have e1 := x b u e t
  rw [upd_ne (ne_of_none e1 h)]
  exact e1
theorem tabs_new {T : List (Addr × Str)} {H : Hp} {p : Addr} {o : HO} (t : Tabs T H) (h : H p = none) : Tabs T (upd H p o) := t.ext fun b u e => by
  rw [upd_ne (ne_of_none e h)]
  exact e
theorem extT {K : PySem.W.Frag} {H H' : Hp} {a : Addr} {xs : List V} (e : ExtN H H') (h : SqT K H a xs) : SqT K H' a xs := ext_tup e h
theorem extL {K : PySem.W.Frag} {H H' : Hp} {a : Addr} {xs : List V} (e : ExtN H H') (h : SqL K H a xs) : SqL K H' a xs := by
  rcases h with (h | ⟨o, h⟩) | h
  · exact .inl (.inl (e _ _ h (fun ps z => nomatch z)))
  · exact .inl (.inr ⟨o, e _ _ h (fun ps z => nomatch z)⟩)
  · exact .inr h
theorem ext_kt {H H0 H' : Hp} {p : Addr} (hp : H p = none) (s : ExtN H H0) (k : KT p H0 H') : ExtN H H' := fun b o e t => k b o (ne_of_none e hp) (s b o e t) t
/-- a def whose body makes a lambda: its code object is at c -/
structure FunT (K : PySem.W.Frag) (x : Str) (st : Stmt) (f : Addr) (fd : FuncData) (c : Addr) : Prop where
  ex : ∃ (oc : Value) (od : Option Addr) (kV doc pm : Value) (an : Option Addr) (ct : Value) (osl : Array (Option Value)),
    fd = PySem.W.fnOf x x (defArgs st) (defBody st) (defScope st) .none kV doc pm an (.ref c) ct ∧ K.lookup f = some ⟨oc, od, .func fd, osl⟩ ∧ PySem.W.codeIn K (.ref c) x = true
  kp : PySem.W.keepIn K (.ref f) = true
theorem FunT.ok {P : Program} {w : World} {K : PySem.W.Frag} {mg : Str → Option Value} {base : Heap} {x : Str} {st : Stmt} {f c : Addr} {fd : FuncData} {N ps : List Str} {k : Nat} {sp : Sp} (F : FunT K x st f fd c) (S : FnScope N ps (defScope st)) (len : ∀ vs H Q E, sp vs H Q E → vs.length = ps.length)
    (hbody : ∀ (A : Around) (outer : List Env) (s : Shared) (H : Hp) (vs : List V) (Q : VK) (E : XK), Room k (A.deeper (envOfC x (defScope st) s.heap.objs.size f (.ref c))) → sp vs H Q E →
      ∃ t, PSs (cxOf CX0 P w K mg base N x (defScope st) f (.ref c) A outer s H E).nox (defBody st) t ∧ t { nx := fun _ H' => Q .non H', rt := Q } (start N vs) H) : FnOk P w K mg base CX0 (k + 1) f fd ps sp := by
  obtain ⟨oc, od, kV, doc, pm, an, ct, osl, rfl, lk, hcd⟩ := F.ex
  refine fn_of lk hcd S len fun A outer s H vs Q E hr hs => ?_
  obtain ⟨t, h, q⟩ := hbody A outer s H vs Q E hr hs
  exact ⟨t, h.nox, q⟩
theorem FunT.fn {K : PySem.W.Frag} {x : Str} {st : Stmt} {f c : Addr} {fd : FuncData} (F : FunT K x st f fd c) : Fun K x x st f fd := let ⟨oc, od, kV, doc, pm, an, ct, osl, e, lk, hcd⟩ := F.ex; ⟨⟨oc, od, kV, doc, pm, an, .ref c, ct, osl, e, lk, hcd⟩, F.kp⟩
abbrev lamNm : Str := (("round_bits" : Str) ++ (".<locals>." : Str)) ++ ("<lambda>" : Str)
end Bf
namespace Bf
open PySem PySem.Spec PyProof.Rows L2
/-! ### ways -/
def wf (s : Nat) (ks : List Nat) : Nat := ks.foldl (fun h k => h ^^^ 2 ^ k) s
def wl (s : Nat) (ks : List Nat) : List Nat := (List.range (ks.length + 1)).map fun i => wf s (ks.take i)
theorem wf_snoc (s : Nat) (ks : List Nat) (k : Nat) : wf s (ks ++ [k]) = wf s ks ^^^ 2 ^ k := by
  unfold wf
  rw [List.foldl_append]
  rfl
theorem wl_snoc (s : Nat) (ks : List Nat) (k : Nat) : wl s (ks ++ [k]) = wl s ks ++ [wf s ks ^^^ 2 ^ k] := by
  unfold wl
  rw [List.length_append, List.length_singleton, List.range_succ, List.map_append]
  congr 1
  · refine List.map_congr_left fun i hi => ?_
    have := List.mem_range.mp hi
    rw [List.take_append_of_le_length (by omega)]
  · show [wf s ((ks ++ [k]).take (ks.length + 1))] = _
    rw [List.take_of_length_le (by rw [List.length_append]; simp), wf_snoc]
theorem wl_last (s : Nat) (ks : List Nat) : ∃ l, wl s ks = l ++ [wf s ks] := by
  refine ⟨(List.range ks.length).map fun i => wf s (ks.take i), ?_⟩
  unfold wl
  rw [List.range_succ, List.map_append]
  simp
theorem wl_len (s : Nat) (ks : List Nat) : (wl s ks).length = ks.length + 1 := by
  unfold wl
  rw [List.length_map, List.length_range]
theorem wl_nil (s : Nat) : wl s [] = [s] := rfl
theorem wl_at {s : Nat} {ks : List Nat} {i : Nat} (h : i ≤ ks.length) : (wl s ks)[i]? = some (wf s (ks.take i)) := by
  unfold wl
  rw [List.getElem?_map, List.getElem?_range (by omega)]
  rfl
theorem wf_lt {q : Nat} : ∀ {ks : List Nat} {s : Nat}, s < 2 ^ q → (∀ k ∈ ks, k < q) → wf s ks < 2 ^ q
  | [], s, h, _ => h
  | k :: ks, s, h, hk => wf_lt (ks := ks) (Nat.xor_lt_two_pow h (Nat.pow_lt_pow_right (by decide) (hk k List.mem_cons_self))) fun x hx => hk x (List.mem_cons_of_mem _ hx)
theorem wf_xor : ∀ (ks : List Nat) (s : Nat), wf s ks = s ^^^ wf 0 ks
  | [], s => by simp [wf]
  | k :: ks, s => by
    have h1 := wf_xor ks (s ^^^ 2 ^ k)
    have h2 := wf_xor ks (0 ^^^ 2 ^ k)
    show wf (s ^^^ 2 ^ k) ks = s ^^^ wf (0 ^^^ 2 ^ k) ks
    rw [h1, h2, Nat.zero_xor, Nat.xor_assoc]
theorem wf_bit {i : Nat} : ∀ {ks : List Nat}, ks.Nodup → (wf 0 ks).testBit i = decide (i ∈ ks)
  | [], _ => by simp [wf]
  | k :: ks, nd => by
    obtain ⟨n1, n2⟩ := List.nodup_cons.mp nd
    have h2 := wf_xor ks (0 ^^^ 2 ^ k)
    show (wf (0 ^^^ 2 ^ k) ks).testBit i = _
    rw [h2, Nat.zero_xor, Nat.testBit_xor, wf_bit n2, Nat.testBit_two_pow]
    by_cases e : i = k
    · subst e
      simp [n1]
    · have e2 : ¬ k = i := fun z => e z.symm
      simp [e, e2]
theorem rb_nodup (q h j : Nat) : (rb q h j).Nodup := (rb_sorted q h j).imp fun {a b} hab e => by
  subst e
  exact Int.lt_irrefl _ hab
theorem wf_rb {q d j : Nat} (hd : d < 2 ^ q) : wf 0 (rb q d j) = d := by
  refine Nat.eq_of_testBit_eq fun i => ?_
  rw [wf_bit (rb_nodup q d j)]
  cases e : d.testBit i with
  | true =>
    refine decide_eq_true (mem_rb.mpr ⟨Nat.lt_of_not_le fun l => ?_, e⟩)
    rw [Nat.testBit_lt_two_pow (Nat.lt_of_lt_of_le hd (Nat.pow_le_pow_right (by decide) l))] at e
    cases e
  | false =>
    refine decide_eq_false fun z => ?_
    rw [(mem_rb.mp z).2] at e
    cases e
/-- the turns behind the first, so many of them -/
def tp (q d j n : Nat) : List Nat := ((List.range n).map fun i => (j + (1 + i)) % q).filter fun k => d.testBit k
theorem tp_succ (q d j n : Nat) : tp q d j (n + 1) = tp q d j n ++ (if d.testBit ((j + (1 + n)) % q) = true then [(j + (1 + n)) % q] else []) := by
  unfold tp
  rw [List.range_succ, List.map_append, List.filter_append]
  cases e : d.testBit ((j + (1 + n)) % q) <;> simp [e]
theorem tp_len (q d j n : Nat) : (tp q d j n).length ≤ n := by
  have h1 := List.length_filter_le (fun k => d.testBit k) ((List.range n).map fun i => (j + (1 + i)) % q)
  rw [List.length_map, List.length_range] at h1
  exact h1
theorem tp_lt {q d j n k : Nat} (hq : 0 < q) (h : k ∈ tp q d j n) : k < q := by
  unfold tp at h
  obtain ⟨i, _, rfl⟩ := List.mem_map.mp (List.mem_filter.mp h).1
  exact Nat.mod_lt _ hq
theorem rb_split {q d j : Nat} (hj : j < q) : rb q d j = (if d.testBit j = true then [j] else []) ++ tp q d j (q - 1) := by
  unfold rb tp
  obtain ⟨n, rfl⟩ : ∃ n, q = n + 1 := ⟨q - 1, by omega⟩
  rw [List.range_succ_eq_map, List.map_cons, Nat.add_sub_cancel, Nat.add_zero, Nat.mod_eq_of_lt hj, List.map_map]
  have e : (List.range n).map ((fun i => (j + i) % (n + 1)) ∘ Nat.succ) = (List.range n).map fun i => (j + (1 + i)) % (n + 1) := List.map_congr_left fun i _ => by
    show (j + (i + 1)) % (n + 1) = _
    rw [Nat.add_comm i 1]
  rw [e]
  cases eb : d.testBit j <;> simp [eb]
/-- the bits crossed in tree j -/
def cl (q d j : Nat) : List Nat := j :: tp q d j (q - 1) ++ (if d.testBit j = true then [] else [j])
theorem cl_in {q d j : Nat} (hj : j < q) (h : d.testBit j = true) : cl q d j = rb q d j := by
  rw [rb_split hj]
  unfold cl
  simp [h]
theorem cl_out {q d j : Nat} (hj : j < q) (h : d.testBit j = false) : cl q d j = [j] ++ rb q d j ++ [j] := by
  rw [rb_split hj]
  unfold cl
  simp [h]
theorem cl_lt {q d j k : Nat} (hj : j < q) (h : k ∈ cl q d j) : k < q := by
  unfold cl at h
  rcases List.mem_append.mp h with h | h
  · rcases List.mem_cons.mp h with rfl | h
    · exact hj
    · exact tp_lt (by omega) h
  · split at h
    · exact absurd h List.not_mem_nil
    · rw [List.mem_singleton.mp h]
      exact hj
theorem cl_len (q d j : Nat) (hq : 0 < q) : (cl q d j).length ≤ q + 1 := by
  unfold cl
  have := tp_len q d j (q - 1)
  rw [List.length_append, List.length_cons]
  split <;> simp <;> omega
theorem cl_ne (q d j : Nat) : cl q d j ≠ [] := by
  unfold cl
  simp
theorem wf_cl {q d j : Nat} (hj : j < q) (hd : d < 2 ^ q) (s : Nat) : wf s (cl q d j) = s ^^^ d := by
  rw [wf_xor]
  congr 1
  cases e : d.testBit j with
  | true => rw [cl_in hj e, wf_rb hd]
  | false =>
    rw [cl_out hj e, wf_snoc]
    have h1 : wf 0 ([j] ++ rb q d j) = 2 ^ j ^^^ d := by
      show wf (0 ^^^ 2 ^ j) (rb q d j) = _
      rw [wf_xor, wf_rb hd, Nat.zero_xor]
    rw [h1, Nat.xor_comm (2 ^ j) d, Nat.xor_assoc, Nat.xor_self, Nat.xor_zero]
end Bf
namespace Bf
open PySem PySem.Spec PyProof.Rows L2 LamX NdefX
theorem op_xorN {X : Cx} : OpR X (binaryOp .BitXor) (fun x y H Q => ∃ n m : Nat, x = .int (n : Int) ∧ y = .int (m : Int) ∧ Q (.int ((n ^^^ m : Nat) : Int)) H) := by
  intro pins s σ H x y v u Q I rx ry h
  obtain ⟨n, m, rfl, rfl, q⟩ := h
  refine op_xor pins s σ H _ _ v u Q I rx ry ⟨(n : Int), (m : Int), rfl, rfl, ?_⟩
  show Q (.int (Builtin.bitXor (n : Int) (m : Int))) H
  rw [Bits.bitXor_pp (Int.natCast_nonneg n) (Int.natCast_nonneg m)]
  exact q
theorem op_modNN {X : Cx} : OpR X (binaryOp .Mod) (fun x y H Q => ∃ n m : Nat, x = .int (n : Int) ∧ y = .int (m : Int) ∧ 0 < m ∧ Q (.int ((n % m : Nat) : Int)) H) := by
  intro pins s σ H x y v u Q I rx ry h
  obtain ⟨n, m, rfl, rfl, hm, q⟩ := h
  refine op_mod pins s σ H _ _ v u Q I rx ry ⟨(n : Int), (m : Int), rfl, rfl, (show (0 : Int) < (m : Int) by omega), ?_⟩
  rw [Int.natCast_emod] at q
  exact q
/-! ### defs with source=0 behind a star -/
abbrev FunS (K : PySem.W.Frag) (x : Str) (st : Stmt) (f : Addr) (fd : FuncData) : Prop := FunD K x x (defArgs st) (defBody st) (defScope st) [] [("source", .int 0)] f fd
theorem FunS.go {P : Program} {w : World} {K : PySem.W.Frag} {mg : Str → Option Value} {base : Heap} {x : Str} {st : Stmt} {f : Addr} {fd : FuncData} {N ps : List Str} {k : Nat} {sp : Sp} (F : FunS K x st f fd) (S : FnScope N ps (defScope st)) (len : ∀ vs H Q E, sp vs H Q E → vs.length = ps.length)
    (hbody : ∀ (cdv : Value) (A : Around) (outer : List Env) (s : Shared) (H : Hp) (vs : List V) (Q : VK) (E : XK), Room k (A.deeper (envOfC x (defScope st) s.heap.objs.size f cdv)) → sp vs H Q E →
      ∃ t, PSs (cxOf CX0 P w K mg base N x (defScope st) f cdv A outer s H E).nox (defBody st) t ∧ t { nx := fun _ H' => Q .non H', rt := Q } (start N vs) H) : FnOk P w K mg base CX0 (k + 1) f fd ps sp :=
  FunD.ok F S len fun cdv A outer s H vs Q E hr hs => let ⟨t, h, q⟩ := hbody cdv A outer s H vs Q E hr hs; ⟨t, h.nox, q⟩
def g3 {α : Type} (us ws : List α) : List α := match us, ws with
  | [a, b, c], [d] => [a, b, c, d]
  | _, _ => []
theorem g3_rel {vs zs : List V} {us ws : List Value} (r1 : Vals vs us) (r2 : Vals zs ws) : Vals (g3 vs zs) (g3 us ws) := by
  match r1, r2 with
  | .nil, _ => exact .nil
  | .cons _ .nil, _ => exact .nil
  | .cons _ (.cons _ .nil), _ => exact .nil
  | .cons _ (.cons _ (.cons _ .nil)), .nil => exact .nil
  | .cons a (.cons b (.cons c .nil)), .cons d .nil => exact .cons a (.cons b (.cons c (.cons d .nil)))
  | .cons _ (.cons _ (.cons _ .nil)), .cons _ (.cons _ _) => exact .nil
  | .cons _ (.cons _ (.cons _ (.cons _ _))), _ => exact .nil
theorem g3_len {us ws : List Value} (h : (g3 us ws).length = 4) : ∃ a b c d, us = [a, b, c] ∧ ws = [d] := by
  match us, ws, h with
  | [a, b, c], [d], _ => exact ⟨a, b, c, d, rfl, rfl⟩
  | [], _, h => cases h
  | [_], _, h => cases h
  | [_, _], _, h => cases h
  | [_, _, _], [], h => cases h
  | [_, _, _], _ :: _ :: _, h => cases h
  | _ :: _ :: _ :: _ :: _, _, h => cases h
theorem kbS {K : PySem.W.Frag} {x : Str} {st : Stmt} {f : Addr} {fd : FuncData} (F : FunS K x st f fd) (h : ∀ (kV doc pm : Value) (an : Option Addr) (cdv ct a b c d : Value), bindArgs (PySem.W.fnOf x x (defArgs st) (defBody st) (defScope st) .none kV doc pm an cdv ct) ⟨[a, b, c], [(("source" : Str), d)]⟩ = pure ([("q", a), ("hand", b), ("j", c), ("source", d)] : List (Str × Value))) :
    KBinds K fd ["q", "hand", "j", "source"] ["source"] g3 g3 := by
  obtain ⟨oc, od, dV, kV, doc, pm, an, cdv, ct, osl, rfl, lk, hcd, hD, hK⟩ := F.ex
  rcases hD with ⟨_, rfl⟩ | ⟨z, _⟩
  · refine ⟨fun s us ws _ hl => ?_, fun r1 r2 => g3_rel r1 r2⟩
    obtain ⟨a, b, c, d, rfl, rfl⟩ := g3_len hl
    exact .of_eq (h kV doc pm an cdv ct a b c d)
  · exact absurd rfl z
/-! ### tuples that expressions give, tables aside -/
def GE (K : PySem.W.Frag) (T : List (Addr × Str)) (t : TE) (σ : L2.St) (H : Hp) (vs : List V) : Prop := ∀ H1, ExtN H H1 → Tabs T H1 → ∀ Q : VK, (∀ H2 x, ExtN H1 H2 → Tabs T H2 → SqT K H2 x vs → Q (.ref x) H2) → t σ H1 Q
theorem ge_cat {K : PySem.W.Frag} {T : List (Addr × Str)} {ta tb : TE} {σ : L2.St} {H : Hp} {xs ys : List V} (ha : GE K T ta σ H xs) (hb : GE K T tb σ H ys) (hz : xs.length + ys.length ≤ sizeLine) : GE K T (tOp (rCatA K) ta tb) σ H (xs ++ ys) := fun H1 s t Q q => ha H1 s t _ fun H2 x s2 t2 hx =>
  hb H2 (s.trans s2) t2 _ fun H3 y s3 t3 hy => by
    refine ⟨x, y, xs, ys, rfl, rfl, extT s3 hx, hy, hz, fun e => ?_, fun _ e => ?_, fun _ _ p np => ?_⟩
    · exact q H3 y (s2.trans s3) t3 (by rw [e]; exact hy)
    · exact q H3 x (s2.trans s3) t3 (by rw [e, List.append_nil]; exact extT s3 hx)
    · exact q _ p (ext_new (s2.trans s3) np) (tabs_new t3 np) (.inl (.inl upd_same))
theorem ge_one {K : PySem.W.Frag} {T : List (Addr × Str)} {i : Nat} {σ : L2.St} {H : Hp} {v : V} (hi : σ[i]? = some (some v)) : GE K T (tTup (tCons (tVar i) tNil)) σ H [v] := fun H1 s t Q q =>
  ⟨v, hi, (by show 1 ≤ sizeLine; decide), fun p np => q _ p (ext_new (ExtN.refl H1) np) (tabs_new t np) (.inl (.inl upd_same))⟩
end Bf
namespace Bf
open PySem PySem.Spec PyProof.Rows L2
/-! ### who hears whom -/
theorem sorted_last {α : Type} {key : α → Int} {k : α} : ∀ {l : List α}, l.Pairwise (fun a b => key a < key b) → (l.getLast? = some k ↔ k ∈ l ∧ ∀ x ∈ l, key x ≤ key k)
  | [], _ => by simp
  | [a], _ => by
    simp only [List.getLast?_singleton, Option.some.injEq, List.mem_singleton]
    constructor
    · rintro rfl
      exact ⟨rfl, fun x hx => by rw [hx]; exact Int.le_refl _⟩
    · exact fun h => h.1.symm
  | a :: b :: l, hp => by
    obtain ⟨h1, h2⟩ := List.pairwise_cons.mp hp
    have ih := sorted_last (k := k) h2
    rw [List.getLast?_cons_cons, ih]
    constructor
    · rintro ⟨m, h⟩
      refine ⟨List.mem_cons_of_mem _ m, fun x hx => ?_⟩
      rcases List.mem_cons.mp hx with rfl | hx
      · exact Int.le_of_lt (h1 k m)
      · exact h x hx
    · rintro ⟨m, h⟩
      have hb := h1 b List.mem_cons_self
      have hb2 := h b (List.mem_cons_of_mem _ List.mem_cons_self)
      rcases List.mem_cons.mp m with rfl | m
      · omega
      · exact ⟨m, fun x hx => h x (List.mem_cons_of_mem _ hx)⟩
theorem bit_xor (d k x : Nat) : (d ^^^ 2 ^ k).testBit x = (d.testBit x ^^ decide (k = x)) := by rw [Nat.testBit_xor, Nat.testBit_two_pow]
theorem lt_of_bit {d q x : Nat} (hd : d < 2 ^ q) (h : d.testBit x = true) : x < q := Nat.lt_of_not_le fun l => by
  rw [Nat.testBit_lt_two_pow (Nat.lt_of_lt_of_le hd (Nat.pow_le_pow_right (by decide) l))] at h
  cases h
theorem ar_self {q j : Nat} : ar q j j = 0 := by
  unfold ar
  rw [Int.sub_self, Int.zero_emod]
theorem ar_nn {q j x : Nat} (hq : 0 < q) : 0 ≤ ar q j x := Int.emod_nonneg _ (by omega)
theorem ar_lt {q j x : Nat} (hq : 0 < q) : ar q j x < q := Int.emod_lt_of_pos _ (by omega)
/-- k is the last bit crossed to the hand across by k -/
def Hr (q d j k : Nat) : Prop := (cl q (d ^^^ 2 ^ k) j).getLast? = some k
theorem hr_iff {q d j k : Nat} (hj : j < q) (hk : k < q) (hd : d < 2 ^ q) : Hr q d j k ↔ (k = j ∧ (d = 0 ∨ d.testBit j = true)) ∨ (d.testBit j = true ∧ k ≠ j ∧ ∀ x, d.testBit x = true → ar q j x < ar q j k) := by
  have hq : 0 < q := by omega
  have hd' : d ^^^ 2 ^ k < 2 ^ q := Nat.xor_lt_two_pow hd (Nat.pow_lt_pow_right (by decide) hk)
  have bj := bit_xor d k j
  unfold Hr
  by_cases e : k = j
  · subst e
    rw [decide_eq_true rfl] at bj
    cases b : d.testBit k with
    | true =>
      rw [b] at bj
      rw [cl_out hj bj, List.getLast?_append, List.getLast?_singleton]
      simp
    | false =>
      rw [b] at bj
      rw [cl_in hj bj, sorted_last (rb_sorted q _ k)]
      constructor
      · rintro ⟨m, h⟩
        refine .inl ⟨rfl, .inl ?_⟩
        refine Nat.eq_of_testBit_eq fun x => ?_
        rw [Nat.zero_testBit]
        cases bx : d.testBit x with
        | false => rfl
        | true =>
          exfalso
          have hx : x < q := lt_of_bit hd bx
          have hxk : k ≠ x := fun z => by rw [z, bx] at b; cases b
          have hx2 : x ∈ rb q (d ^^^ 2 ^ k) k := mem_rb.mpr ⟨hx, by rw [bit_xor, bx, decide_eq_false hxk]; rfl⟩
          have h1 := h x hx2
          rw [ar_self] at h1
          have h2 := ar_nn (q := q) (j := k) (x := x) hq
          have h3 : ar q k x = ar q k k := by rw [ar_self]; omega
          exact hxk (ar_inj hx hk h3).symm
      · rintro (⟨_, h | h⟩ | ⟨h, _⟩)
        · subst h
          refine ⟨mem_rb.mpr ⟨hk, bj⟩, fun x hx => ?_⟩
          have := (mem_rb.mp hx).2
          rw [bit_xor, Nat.zero_testBit] at this
          have hx : k = x := by simpa using this
          rw [hx]
          exact Int.le_refl _
        · cases h
        · cases h
  · rw [decide_eq_false e, Bool.xor_false] at bj
    cases b : d.testBit j with
    | false =>
      rw [b] at bj
      rw [cl_out hj bj]
      constructor
      · intro h
        rw [List.getLast?_append, List.getLast?_singleton] at h
        exact absurd (Option.some.inj h).symm e
      · rintro (⟨h, _⟩ | ⟨h, _⟩)
        · exact absurd h e
        · cases h
    | true =>
      rw [b] at bj
      rw [cl_in hj bj, sorted_last (rb_sorted q _ j)]
      constructor
      · rintro ⟨m, h⟩
        refine .inr ⟨rfl, e, fun x bx => ?_⟩
        have m2 := (mem_rb.mp m).2
        have hkx : k ≠ x := fun z => by
          rw [bit_xor, z, bx, decide_eq_true rfl] at m2
          cases m2
        have hx : x < q := lt_of_bit hd bx
        have h1 := h x (mem_rb.mpr ⟨hx, by rw [bit_xor, bx, decide_eq_false hkx]; rfl⟩)
        have h2 : ar q j x ≠ ar q j k := fun z => hkx (ar_inj hx hk z).symm
        omega
      · rintro (⟨h, _⟩ | ⟨_, _, h⟩)
        · exact absurd h e
        · have bk : d.testBit k = false := by
            cases z : d.testBit k with
            | false => rfl
            | true => exact absurd (h k z) (Int.lt_irrefl _)
          refine ⟨mem_rb.mpr ⟨hk, by rw [bit_xor, bk, decide_eq_true rfl]; rfl⟩, fun x hx => ?_⟩
          by_cases hkx : k = x
          · rw [hkx]
            exact Int.le_refl _
          · have hx2 := (mem_rb.mp hx).2
            rw [bit_xor, decide_eq_false hkx, Bool.xor_false] at hx2
            exact Int.le_of_lt (h x hx2)
theorem xor_pow_inj {h a b : Nat} (e : h ^^^ 2 ^ a = h ^^^ 2 ^ b) : a = b := by
  have : 2 ^ a = 2 ^ b := by
    have := congrArg (h ^^^ ·) e
    simpa [← Nat.xor_assoc] using this
  exact (Nat.pow_right_inj (by decide)).mp this
/-- the places behind p -/
def onw (q h j p n : Nat) : List Nat := (List.range n).map fun i => h ^^^ 2 ^ ((j + (p + i)) % q)
theorem onw_succ (q h j p n : Nat) : onw q h j p (n + 1) = onw q h j p n ++ [h ^^^ 2 ^ ((j + (p + n)) % q)] := by
  unfold onw
  rw [List.range_succ, List.map_append]
  rfl
theorem onw_len (q h j p n : Nat) : (onw q h j p n).length = n := by
  unfold onw
  rw [List.length_map, List.length_range]
theorem hears_mem {q h j d p : Nat} (hj : j < q) (hd : d < 2 ^ q) (b : d.testBit j = true) (hp : ∀ x, d.testBit x = true → ar q j x ≤ (p : Int)) (hp2 : ∃ x, d.testBit x = true ∧ ar q j x = (p : Int)) (x : Nat) :
    x ∈ (h ^^^ 2 ^ j) :: onw q h j (p + 1) (q - (p + 1)) ↔ ∃ k, k < q ∧ x = h ^^^ 2 ^ k ∧ Hr q d j k := by
  have hq : 0 < q := by omega
  constructor
  · intro hx
    rcases List.mem_cons.mp hx with rfl | hx
    · exact ⟨j, hj, rfl, (hr_iff hj hj hd).mpr (.inl ⟨rfl, .inr b⟩)⟩
    · unfold onw at hx
      obtain ⟨i, hi, rfl⟩ := List.mem_map.mp hx
      have hi := List.mem_range.mp hi
      have hk : (j + (p + 1 + i)) % q < q := Nat.mod_lt _ hq
      have ea := ar_at (q := q) (i := p + 1 + i) j (by omega)
      refine ⟨_, hk, rfl, (hr_iff hj hk hd).mpr (.inr ⟨b, fun z => ?_, fun x bx => ?_⟩)⟩
      · rw [z, ar_self] at ea
        omega
      · have := hp x bx
        rw [ea]
        omega
  · rintro ⟨k, hk, rfl, hr⟩
    rcases (hr_iff hj hk hd).mp hr with ⟨rfl, _⟩ | ⟨_, hne, hlt⟩
    · exact List.mem_cons_self
    · obtain ⟨i, hi, e⟩ := at_of j hk
      have ea := ar_at (q := q) (i := i) j hi
      rw [e] at ea
      obtain ⟨x, bx, ex⟩ := hp2
      have h1 := hlt x bx
      rw [ea, ex] at h1
      refine List.mem_cons_of_mem _ (List.mem_map.mpr ⟨i - (p + 1), List.mem_range.mpr (by omega), ?_⟩)
      have : p + 1 + (i - (p + 1)) = i := by omega
      show h ^^^ 2 ^ ((j + (p + 1 + (i - (p + 1)))) % q) = _
      rw [this, e]
theorem hears_nodup {q h j p : Nat} (hj : j < q) : ((h ^^^ 2 ^ j) :: onw q h j (p + 1) (q - (p + 1))).Nodup := by
  have hq : 0 < q := by omega
  have key : ∀ i, i < q → ∀ i', i' < q → h ^^^ 2 ^ ((j + i) % q) = h ^^^ 2 ^ ((j + i') % q) → i = i' := fun i hi i' hi' e => by
    have e1 := xor_pow_inj e
    have a1 := ar_at (q := q) (i := i) j hi
    have a2 := ar_at (q := q) (i := i') j hi'
    rw [e1, a2] at a1
    omega
  refine List.nodup_cons.mpr ⟨fun z => ?_, ?_⟩
  · unfold onw at z
    obtain ⟨i, hi, e⟩ := List.mem_map.mp z
    have hi := List.mem_range.mp hi
    have e2 : h ^^^ 2 ^ ((j + (p + 1 + i)) % q) = h ^^^ 2 ^ ((j + 0) % q) := by
      have e0 : (j + 0) % q = j := Nat.mod_eq_of_lt hj
      rw [e0]; exact e
    have := key (p + 1 + i) (by omega) 0 hq e2
    omega
  · unfold onw List.Nodup
    rw [List.pairwise_map]
    refine (List.pairwise_lt_range).imp_of_mem fun {a b} ha hb hab e => ?_
    have ha := List.mem_range.mp ha
    have hb := List.mem_range.mp hb
    have := key _ (by omega) _ (by omega) e
    omega
end Bf
namespace Bf
open PySem PySem.Spec PyProof.Rows L2 LamX NdefX
theorem wl_step {s : Nat} {ks : List Nat} {i k : Nat} (h : ks[i]? = some k) : wl s (ks.take (i + 1)) = wl s (ks.take i) ++ [wf s (ks.take i) ^^^ 2 ^ k] := by
  rw [List.take_add_one, h]
  exact wl_snoc s (ks.take i) k
theorem tabs_upd {T : List (Addr × Str)} {H : Hp} {D : Addr} {xs ys : List V} (t : Tabs T H) (h : H D = some (.lst xs)) : Tabs T (upd H D (.lst ys)) := fun y hy => by
  obtain ⟨ps, t1, t2, t3⟩ := t y hy
  refine ⟨ps, ?_, t2, fun pos cv hc => ?_⟩
  · rw [upd_ne (fun e => by rw [e, h] at t1; cases t1)]
    exact t1
  · obtain ⟨c, e1, e2⟩ := t3 pos cv hc
    refine ⟨c, e1, ?_⟩
    rw [upd_ne (fun e => by rw [e, h] at e2; unfold CodeO at e2; cases e2)]
    exact e2
theorem nv_last {l : List Nat} {z : Nat} : atI (nv (l ++ [z])) (-1) = some (.int (z : Int)) := by
  have e : nv (l ++ [z]) = nv l ++ [.int (z : Int)] := by
    unfold nv
    rw [List.map_append]
    rfl
  rw [e]
  exact atI_last _ _
theorem nv_get' {ks : List Nat} {i : Nat} {x : V} (hx : (nv ks)[i]? = some x) : ∃ n, ks[i]? = some n ∧ V.int (n : Int) = x := by
  unfold nv at hx
  rw [List.getElem?_map] at hx
  cases e : ks[i]? with
  | none => rw [e] at hx; cases hx
  | some z => rw [e] at hx; exact ⟨z, rfl, Option.some.inj hx⟩
/-! ### small things -/
theorem pot_ne {H : Hp} {p u : Addr} {m : Nat} (h : Pot H p m) (n : H u = none) : u ≠ p := fun e => by
  obtain ⟨x, y, z, hH, _⟩ := h
  rw [e, hH] at n
  cases n
/-! ### if t: x = e -/
theorem rd_ifSet {tt : TT} {te : TE} {i : Nat} {D : Ends} {σ : L2.St} {H : Hp} (b : Bool) (R : V → Hp → Prop) (h0 : ∀ Q' : Bool → Hp → Prop, Q' b H → tt σ H Q') (h1 : b = true → ∀ Q : VK, (∀ x H', R x H' → Q x H') → te σ H Q)
    (h2 : b = false → ∃ x, σ[i]? = some (some x) ∧ R x H) (h : ∀ x H', R x H' → D.nx (σ.set i (some x)) H') : tIfS tt (tAsg te (gName i)) tNext D σ H := by
  refine h0 _ ?_
  cases b with
  | true => exact iteT (h1 rfl _ fun x H' r => h x H' r)
  | false =>
    obtain ⟨x, hx, r⟩ := h2 rfl
    have e : σ.set i (some x) = σ := by
      refine List.ext_getElem? fun j => ?_
      rw [List.getElem?_set]
      split
      · rename_i ej
        subst ej
        rw [hx]
        split
        · rfl
        · rename_i hj
          exact absurd (List.getElem?_eq_some_iff.mp hx).1 hj
      · rfl
    have z := h x H r
    rw [e] at z
    exact iteF z
theorem wl_small {q s : Nat} {ks : List Nat} (hq : q ≤ 60) (hs : s < 2 ^ q) (hk : ∀ k ∈ ks, k < q) : ∀ n ∈ wl s ks, n < 2 ^ 61 := fun n hn => by
  unfold wl at hn
  obtain ⟨i, _, rfl⟩ := List.mem_map.mp hn
  have h1 : wf s (ks.take i) < 2 ^ q := wf_lt hs fun k hk2 => hk k (List.mem_of_mem_take hk2)
  exact Nat.lt_of_lt_of_le h1 (Nat.pow_le_pow_right (by decide) (by omega))
theorem atI_2 {α : Type} (xs : List α) (u v : α) : atI (xs ++ [u, v]) (-2) = some u := by
  have hl : (xs ++ [u, v]).length = xs.length + 2 := by simp
  have e : ixN (xs ++ [u, v]).length (-2) = some xs.length := by
    unfold ixN
    rw [hl, if_neg (by decide), if_pos (by omega)]
    congr 1
    omega
  unfold atI
  rw [e]
  show (xs ++ [u, v])[xs.length]? = some u
  rw [List.getElem?_append_right (Nat.le_refl _), Nat.sub_self]
  rfl
/-- the last hand but one -/
theorem wl_but0 {s h : Nat} {ks : List Nat} (hne : ks ≠ []) (e1 : wf s ks = h) : atI (nv (wl s ks)) (-2) = some (.int (h ^^^ 2 ^ (ks.getLast hne) : Nat)) := by
  have ek : ks = ks.dropLast ++ [ks.getLast hne] := (List.dropLast_concat_getLast hne).symm
  have e3 : wf s ks.dropLast ^^^ 2 ^ (ks.getLast hne) = h := by rw [← wf_snoc, ← ek]; exact e1
  have e4 : wf s ks.dropLast = h ^^^ 2 ^ (ks.getLast hne) := by rw [← e3, Nat.xor_assoc, Nat.xor_self, Nat.xor_zero]
  obtain ⟨l0, el⟩ := wl_last s ks.dropLast
  have e5 : wl s ks = l0 ++ [wf s ks.dropLast, wf s ks.dropLast ^^^ 2 ^ (ks.getLast hne)] := by
    have z : wl s ks = wl s (ks.dropLast ++ [ks.getLast hne]) := congrArg (wl s) ek
    rw [z, wl_snoc, el]
    simp
  have e6 : nv (wl s ks) = nv l0 ++ [.int (wf s ks.dropLast : Nat), .int (wf s ks.dropLast ^^^ 2 ^ (ks.getLast hne) : Nat)] := by
    rw [e5]
    unfold nv
    rw [List.map_append]
    rfl
  rw [e6, atI_2, e4]
theorem xor_back (s h : Nat) : s ^^^ (h ^^^ s) = h := by rw [Nat.xor_comm h s, ← Nat.xor_assoc, Nat.xor_self, Nat.zero_xor]
theorem wl_but {q h s j : Nat} (hj : j < q) (hh : h < 2 ^ q) (hs : s < 2 ^ q) : atI (nv (wl s (cl q (h ^^^ s) j))) (-2) = some (.int (h ^^^ 2 ^ ((cl q (h ^^^ s) j).getLast (cl_ne _ _ _)) : Nat)) :=
  wl_but0 (cl_ne _ _ _) (by rw [wf_cl hj (Nat.xor_lt_two_pow hh hs), xor_back])
/-! ### crossed of the law -/
/-- a loop over zip of two tuples, the second no longer -/
theorem for_zipS {K : PySem.W.Frag} {a b : Addr} {xs ys : List V} {g : TG} {tb : TS} {D : Ends} {σ : L2.St} {H : Hp} (hl : ys.length ≤ xs.length) (Pv : Nat → L2.St → Hp → Prop) (h0 : Pv 0 σ H) (hq : ∀ i σ H, Pv i σ H → SqT K H a xs ∧ SqT K H b ys)
    (hs : ∀ (i : Nat) (x y : V) (T : Addr) (σ : L2.St) (H : Hp), xs[i]? = some x → ys[i]? = some y → Pv i σ H → H T = none → g (.ref T) σ (upd H T (.tup [x, y])) fun σ2 H2 => tb { D with nx := Pv (i + 1), ct := Pv (i + 1), bk := D.nx } σ2 H2) (hd : ∀ σ H, Pv ys.length σ H → D.nx σ H) :
    ∃ W : Nat → Nat → L2.St → Hp → Prop, (∃ m, W 0 m σ H) ∧ ∀ i m σ H, W i m σ H →
      ((RZ.ItzT K a b).stop i H ∧ D.nx σ H) ∨ ((RZ.ItzT K a b).go i H ∧ ∃ N : L2.St → Hp → Prop, (∀ σ' H', N σ' H' → ∃ m', m' < m ∧ W (i + 1) m' σ' H') ∧ ∀ v H', (RZ.ItzT K a b).yld i H v H' → g v σ H' fun σ2 H2 => tb { D with nx := N, ct := N, bk := D.nx } σ2 H2) := by
  refine ⟨fun i m σ H => i + m = ys.length ∧ Pv i σ H, ⟨ys.length, Nat.zero_add _, h0⟩, fun i m σ H hW => ?_⟩
  obtain ⟨e, p⟩ := hW
  obtain ⟨qa, qb⟩ := hq i σ H p
  cases m with
  | zero =>
    have e2 : i = ys.length := e
    exact .inl ⟨⟨xs, ys, qa, qb, .inr (Nat.le_of_eq e2.symm)⟩, hd σ H (e2 ▸ p)⟩
  | succ m =>
    have l2 : i < ys.length := by omega
    have l1 : i < xs.length := by omega
    refine .inr ⟨⟨xs, ys, xs[i], ys[i], qa, qb, List.getElem?_eq_getElem l1, List.getElem?_eq_getElem l2⟩, Pv (i + 1), fun σ' H' p' => ⟨m, Nat.lt_succ_self m, by omega, p'⟩, fun v H' z => ?_⟩
    obtain ⟨T, x, y, rfl, nT, rfl, z1, z2⟩ := z
    exact hs i x y T σ H (z1 xs qa) (z2 ys qb) p nT
theorem one_of (kk : Nat) : ∀ n, (List.range n).filter (fun k => decide (kk = k)) = if kk < n then [kk] else []
  | 0 => rfl
  | n + 1 => by
    rw [List.range_succ, List.filter_append, one_of kk n]
    by_cases e : kk = n
    · subst e
      simp
    · by_cases l : kk < n
      · simp [e, l, Nat.lt_succ_of_lt l]
      · have : ¬ kk < n + 1 := by omega
        simp [e, l, this]
theorem pow_dec (a b : Nat) : decide (V.int ((2 ^ a : Nat) : Int) = V.int ((2 ^ b : Nat) : Int)) = decide (a = b) := by
  by_cases e : a = b
  · subst e
    simp
  · have h : ¬ V.int ((2 ^ a : Nat) : Int) = V.int ((2 ^ b : Nat) : Int) := fun z => e ((Nat.pow_right_inj (by decide)).mp (Int.ofNat.inj (V.int.inj z)))
    rw [decide_eq_false e, decide_eq_false h]
end Bf
namespace Bf
open PySem PySem.Spec PyProof.Rows L2
/-! ### once round -/
theorem sorted_head {α : Type} {key : α → Int} {k : α} : ∀ {l : List α}, l.Pairwise (fun a b => key a < key b) → k ∈ l → (∀ x ∈ l, key k ≤ key x) → l.head? = some k
  | [], _, h, _ => absurd h List.not_mem_nil
  | a :: l, hp, hm, hk => by
    obtain ⟨h1, _⟩ := List.pairwise_cons.mp hp
    rcases List.mem_cons.mp hm with rfl | hm
    · rfl
    · have := h1 k hm
      have := hk a List.mem_cons_self
      omega
theorem ar_rel {q st k x : Nat} (c : Int) : ((x : Int) - ((k : Int) + c)) % (q : Int) = (ar q st x - ar q st k - c) % (q : Int) := by
  unfold ar
  rw [Int.emod_def ((x : Int) - st) q, Int.emod_def ((k : Int) - st) q]
  generalize ((x : Int) - st) / q = u
  generalize ((k : Int) - st) / q = v
  have e : (x : Int) - st - q * u - ((k : Int) - st - q * v) - c = ((x : Int) - (k + c)) + q * (v - u) := by
    rw [Int.mul_sub]
    omega
  rw [e, Int.add_mul_emod_self_left]
theorem ar_next {q st k x : Nat} (hq : 0 < q) : ar q (k + 1) x = if ar q st k < ar q st x then ar q st x - ar q st k - 1 else ar q st x - ar q st k - 1 + q := by
  have h := ar_rel (q := q) (st := st) (k := k) (x := x) 1
  have e : ar q (k + 1) x = (ar q st x - ar q st k - 1) % (q : Int) := by
    rw [← h]
    unfold ar
    rw [Int.natCast_add]
    rfl
  have a0 := ar_nn (q := q) (j := st) (x := x) hq
  have a1 := ar_lt (q := q) (j := st) (x := x) hq
  have b0 := ar_nn (q := q) (j := st) (x := k) hq
  have b1 := ar_lt (q := q) (j := st) (x := k) hq
  rw [e]
  split
  · exact Int.emod_eq_of_lt (by omega) (by omega)
  · have : (ar q st x - ar q st k - 1) % (q : Int) = (ar q st x - ar q st k - 1 + q) % (q : Int) := by rw [Int.add_emod_right]
    rw [this]
    exact Int.emod_eq_of_lt (by omega) (by omega)
theorem ar_from {q st k x : Nat} (hq : 0 < q) : ar q k x = if ar q st k ≤ ar q st x then ar q st x - ar q st k else ar q st x - ar q st k + q := by
  have h := ar_rel (q := q) (st := st) (k := k) (x := x) 0
  have e : ar q k x = (ar q st x - ar q st k) % (q : Int) := by
    rw [Int.add_zero, Int.sub_zero] at h
    exact h
  have a0 := ar_nn (q := q) (j := st) (x := x) hq
  have a1 := ar_lt (q := q) (j := st) (x := x) hq
  have b0 := ar_nn (q := q) (j := st) (x := k) hq
  have b1 := ar_lt (q := q) (j := st) (x := k) hq
  rw [e]
  split
  · exact Int.emod_eq_of_lt (by omega) (by omega)
  · have : (ar q st x - ar q st k) % (q : Int) = (ar q st x - ar q st k + q) % (q : Int) := by rw [Int.add_emod_right]
    rw [this]
    exact Int.emod_eq_of_lt (by omega) (by omega)
/-- the next one in the round order -/
theorem next_in {q h st i b c : Nat} (hq : 0 < q) (h1 : (rb q h st)[i]? = some b) (h2 : (rb q h st)[i + 1]? = some c) : (rb q h (b + 1)).head? = some c := by
  have hs := rb_sorted q h st
  have l1 := (List.getElem?_eq_some_iff.mp h1)
  have l2 := (List.getElem?_eq_some_iff.mp h2)
  obtain ⟨g1, e1⟩ := l1
  obtain ⟨g2, e2⟩ := l2
  have hbc : ar q st b < ar q st c := by
    have := List.pairwise_iff_getElem.mp hs i (i + 1) g1 g2 (Nat.lt_succ_self i)
    rw [e1, e2] at this
    exact this
  have mc : c ∈ rb q h st := e2 ▸ List.getElem_mem g2
  refine sorted_head (rb_sorted q h (b + 1)) (mem_rb.mpr (mem_rb.mp mc)) fun x hx => ?_
  have mx : x ∈ rb q h st := mem_rb.mpr (mem_rb.mp hx)
  obtain ⟨m, hm, ex⟩ := List.getElem_of_mem mx
  rw [ar_next (st := st) hq, ar_next (st := st) hq, if_pos hbc]
  have x1 := ar_lt (q := q) (j := st) (x := c) hq
  have x0 := ar_nn (q := q) (j := st) (x := x) hq
  have b1 := ar_nn (q := q) (j := st) (x := b) hq
  split
  · rename_i hlt
    have hmi : i < m := by
      refine Nat.lt_of_not_le fun l => ?_
      rcases Nat.lt_or_eq_of_le l with l | l
      · have := List.pairwise_iff_getElem.mp hs m i hm g1 l
        rw [e1, ex] at this
        omega
      · subst l
        rw [e1] at ex
        subst ex
        omega
    rcases Nat.lt_or_eq_of_le (Nat.succ_le_of_lt hmi) with l | l
    · have := List.pairwise_iff_getElem.mp hs (i + 1) m g2 hm l
      rw [e2, ex] at this
      omega
    · have : c = x := by
        rw [← e2, ← ex]
        congr 1
      rw [this]
      omega
  · omega
theorem next_end {q h st b a : Nat} (hq : 0 < q) (h1 : (rb q h st).getLast? = some b) (h2 : (rb q h st).head? = some a) : (rb q h (b + 1)).head? = some a := by
  have hs := rb_sorted q h st
  obtain ⟨mb, hb⟩ := (sorted_last hs).mp h1
  have ma : a ∈ rb q h st := List.mem_of_head? h2
  have ha : ∀ x ∈ rb q h st, ar q st a ≤ ar q st x := by
    cases e : rb q h st with
    | nil => intro x hx; exact absurd hx List.not_mem_nil
    | cons z l =>
      rw [e] at h2 hs
      have : z = a := Option.some.inj h2
      subst this
      intro x hx
      rcases List.mem_cons.mp hx with rfl | hx
      · exact Int.le_refl _
      · exact Int.le_of_lt ((List.pairwise_cons.mp hs).1 x hx)
  refine sorted_head (rb_sorted q h (b + 1)) (mem_rb.mpr (mem_rb.mp ma)) fun x hx => ?_
  have mx : x ∈ rb q h st := mem_rb.mpr (mem_rb.mp hx)
  have c1 := hb x mx
  have c2 := hb a ma
  have c3 := ha x mx
  rw [ar_next (st := st) hq, ar_next (st := st) hq]
  rw [if_neg (by omega), if_neg (by omega)]
  omega
def stp (q h t : Nat) : Int := if ar q h t = 0 then (q : Int) else ar q h t
theorem steps_sum {q st : Nat} (hq : 0 < q) : ∀ (b : Nat) (l : List Nat), b < q → (∀ x ∈ l, x < q) → st < q → (b :: l).Pairwise (fun a b => ar q st a < ar q st b) → (List.zipWith (stp q) (b :: l) (l ++ [st])).sum = q - ar q st b
  | b, [], hb, _, hst, _ => by
    show stp q b st + 0 = _
    have e := ar_from (q := q) (st := st) (k := b) (x := st) hq
    rw [ar_self] at e
    have b0 := ar_nn (q := q) (j := st) (x := b) hq
    have b1 := ar_lt (q := q) (j := st) (x := b) hq
    unfold stp
    rw [e]
    split <;> split <;> omega
  | b, c :: l, hb, hl, hst, hp => by
    obtain ⟨h1, h2⟩ := List.pairwise_cons.mp hp
    have ih := steps_sum (st := st) hq c l (hl c List.mem_cons_self) (fun x hx => hl x (List.mem_cons_of_mem _ hx)) hst h2
    show stp q b c + (List.zipWith (stp q) (c :: l) (l ++ [st])).sum = _
    rw [ih]
    have hbc := h1 c List.mem_cons_self
    have e := ar_from (q := q) (st := st) (k := b) (x := c) hq
    rw [if_pos (by omega)] at e
    unfold stp
    rw [e, if_neg (by omega)]
    omega
theorem arcs_two {q a b : Nat} (hq : 0 < q) : ar q a b + ar q b a = 0 ∨ ar q a b + ar q b a = q := by
  have e := ar_from (q := q) (st := a) (k := b) (x := a) hq
  rw [ar_self] at e
  have b0 := ar_nn (q := q) (j := a) (x := b) hq
  have b1 := ar_lt (q := q) (j := a) (x := b) hq
  rw [e]
  split <;> omega
end Bf
namespace Bf
open PySem PySem.Spec PyProof.Rows L2
/-! ### each neighbour in one tree -/
theorem cl_last_in {q d j k : Nat} (hj : j < q) (b : d.testBit j = true) : (cl q d j).getLast? = some k ↔ (k < q ∧ d.testBit k = true) ∧ ∀ x, x < q → d.testBit x = true → ar q j x ≤ ar q j k := by
  rw [cl_in hj b, sorted_last (rb_sorted q d j), mem_rb]
  constructor
  · exact fun h => ⟨h.1, fun x h1 h2 => h.2 x (mem_rb.mpr ⟨h1, h2⟩)⟩
  · exact fun h => ⟨h.1, fun x hx => h.2 x (mem_rb.mp hx).1 (mem_rb.mp hx).2⟩
theorem cl_last_out {q d j : Nat} (hj : j < q) (b : d.testBit j = false) : (cl q d j).getLast? = some j := by
  rw [cl_out hj b, List.getLast?_append, List.getLast?_singleton]
  rfl
theorem tree_one {q d j1 j2 k : Nat} (h1 : j1 < q) (h2 : j2 < q) (e1 : (cl q d j1).getLast? = some k) (e2 : (cl q d j2).getLast? = some k) : j1 = j2 := by
  have hq : 0 < q := by omega
  cases b1 : d.testBit j1 with
  | false =>
    rw [cl_last_out h1 b1] at e1
    have k1 : j1 = k := Option.some.inj e1
    cases b2 : d.testBit j2 with
    | false =>
      rw [cl_last_out h2 b2] at e2
      have k2 : j2 = k := Option.some.inj e2
      omega
    | true =>
      have := ((cl_last_in h2 b2).mp e2).1.2
      rw [← k1, b1] at this
      cases this
  | true =>
    obtain ⟨⟨hk, bk⟩, m1⟩ := (cl_last_in h1 b1).mp e1
    cases b2 : d.testBit j2 with
    | false =>
      rw [cl_last_out h2 b2] at e2
      have k2 : j2 = k := Option.some.inj e2
      rw [← k2, b2] at bk
      cases bk
    | true =>
      obtain ⟨_, m2⟩ := (cl_last_in h2 b2).mp e2
      refine Classical.byContradiction fun hne => ?_
      have x1 := m1 j2 h2 b2
      have x2 := m2 j1 h1 b1
      have f1 := ar_from (q := q) (st := j1) (k := j2) (x := k) hq
      have f2 := ar_from (q := q) (st := j1) (k := j2) (x := j1) hq
      rw [ar_self] at f2
      have c0 := ar_nn (q := q) (j := j1) (x := j2) hq
      have a1 := ar_lt (q := q) (j := j1) (x := k) hq
      have c1 : ar q j1 j2 ≠ 0 := fun z => hne (ar_inj (q := q) (j := j1) h1 h2 (by rw [ar_self, z]))
      rw [if_pos x1] at f1
      rw [if_neg (by omega)] at f2
      omega
theorem tree_some {q d k : Nat} (hd : d < 2 ^ q) (hk : k < q) : ∃ j, j < q ∧ (cl q d j).getLast? = some k := by
  have hq : 0 < q := by omega
  cases b : d.testBit k with
  | false => exact ⟨k, hk, cl_last_out hk b⟩
  | true =>
    cases e : rb q d (k + 1) with
    | nil =>
      have : k ∈ rb q d (k + 1) := mem_rb.mpr ⟨hk, b⟩
      rw [e] at this
      exact absurd this List.not_mem_nil
    | cons j l =>
      have mj : j ∈ rb q d (k + 1) := by rw [e]; exact List.mem_cons_self
      obtain ⟨hj, bj⟩ := mem_rb.mp mj
      have hs := rb_sorted q d (k + 1)
      have least : ∀ x, x < q → d.testBit x = true → ar q (k + 1) j ≤ ar q (k + 1) x := fun x hx bx => by
        have mx : x ∈ rb q d (k + 1) := mem_rb.mpr ⟨hx, bx⟩
        rw [e] at mx hs
        rcases List.mem_cons.mp mx with rfl | mx
        · exact Int.le_refl _
        · exact Int.le_of_lt ((List.pairwise_cons.mp hs).1 x mx)
      refine ⟨j, hj, (cl_last_in hj bj).mpr ⟨⟨hk, b⟩, fun x hx bx => ?_⟩⟩
      have y1 := ar_from (q := q) (st := k + 1) (k := j) (x := x) hq
      have y2 := ar_from (q := q) (st := k + 1) (k := j) (x := k) hq
      rw [if_pos (least x hx bx)] at y1
      rw [if_pos (least k hk b)] at y2
      rw [y1, y2]
      have top : ar q (k + 1) k = q - 1 := by
        have := ar_next (q := q) (st := k) (k := k) (x := k) hq
        rw [if_neg (by omega), ar_self] at this
        omega
      have := ar_lt (q := q) (j := k + 1) (x := x) hq
      omega
end Bf
namespace Bf
open PySem PySem.Spec PyProof.Rows L2 LamX NdefX
/-! ### the tree whose turn it is -/
def trF (q d k : Nat) : Nat := if d.testBit k = true then ((rb q d (k + 1)).head?).getD 0 else k
def ltF (q d k : Nat) : Nat := if d.testBit k = true then (ar q (trF q d k) k).toNat else q
theorem trF_head {q d k : Nat} (hk : k < q) (b : d.testBit k = true) : (rb q d (k + 1)).head? = some (trF q d k) := by
  unfold trF
  rw [if_pos b]
  cases e : rb q d (k + 1) with
  | nil =>
    have : k ∈ rb q d (k + 1) := mem_rb.mpr ⟨hk, b⟩
    rw [e] at this
    exact absurd this List.not_mem_nil
  | cons j l => rfl
theorem trF_out {q d k : Nat} (b : d.testBit k = false) : trF q d k = k := by
  unfold trF
  rw [b]
  rfl
theorem trF_in {q d k : Nat} (hk : k < q) (b : d.testBit k = true) : trF q d k < q ∧ d.testBit (trF q d k) = true := by
  have e := trF_head hk b
  have : trF q d k ∈ rb q d (k + 1) := List.mem_of_mem_head? (by rw [e]; rfl)
  exact mem_rb.mp this
theorem trF_lt {q d k : Nat} (hk : k < q) : trF q d k < q := by
  cases b : d.testBit k with
  | false => rw [trF_out b]; exact hk
  | true => exact (trF_in hk b).1
theorem trF_bit {q d k : Nat} (hk : k < q) : d.testBit (trF q d k) = d.testBit k := by
  cases b : d.testBit k with
  | false => rw [trF_out b]; exact b
  | true => exact (trF_in hk b).2
theorem trF_last {q d k : Nat} (hk : k < q) : (cl q d (trF q d k)).getLast? = some k := by
  have hq : 0 < q := by omega
  cases b : d.testBit k with
  | false => rw [trF_out b]; exact cl_last_out hk b
  | true =>
    obtain ⟨hj, bj⟩ := trF_in hk b
    have eh := trF_head hk b
    generalize trF q d k = j at hj bj eh
    have hs := rb_sorted q d (k + 1)
    have least : ∀ x, x < q → d.testBit x = true → ar q (k + 1) j ≤ ar q (k + 1) x := fun x hx bx => by
      have mx : x ∈ rb q d (k + 1) := mem_rb.mpr ⟨hx, bx⟩
      cases e : rb q d (k + 1) with
      | nil => rw [e] at mx; exact absurd mx List.not_mem_nil
      | cons z l =>
        rw [e] at mx hs eh
        have ez : z = j := Option.some.inj eh
        subst ez
        rcases List.mem_cons.mp mx with rfl | mx
        · exact Int.le_refl _
        · exact Int.le_of_lt ((List.pairwise_cons.mp hs).1 x mx)
    refine (cl_last_in hj bj).mpr ⟨⟨hk, b⟩, fun x hx bx => ?_⟩
    have y1 := ar_from (q := q) (st := k + 1) (k := j) (x := x) hq
    have y2 := ar_from (q := q) (st := k + 1) (k := j) (x := k) hq
    rw [if_pos (least x hx bx)] at y1
    rw [if_pos (least k hk b)] at y2
    rw [y1, y2]
    have top : ar q (k + 1) k = q - 1 := by
      have := ar_next (q := q) (st := k) (k := k) (x := k) hq
      rw [if_neg (by omega), ar_self] at this
      omega
    have := ar_lt (q := q) (j := k + 1) (x := x) hq
    omega
theorem trF_iff {q d j k : Nat} (hj : j < q) (hk : k < q) : (cl q d j).getLast? = some k ↔ j = trF q d k :=
  ⟨fun e => tree_one hj (trF_lt hk) e (trF_last hk), fun e => by rw [e]; exact trF_last hk⟩
theorem ltF_in {q d k : Nat} (hq : 0 < q) (b : d.testBit k = true) : (ltF q d k : Int) = ar q (trF q d k) k := by
  unfold ltF
  rw [if_pos b]
  exact Int.toNat_of_nonneg (ar_nn hq)
theorem ltF_out {q d k : Nat} (b : d.testBit k = false) : ltF q d k = q := by
  unfold ltF
  rw [b]
  rfl
theorem ltF_le {q d k : Nat} (hq : 0 < q) : ltF q d k ≤ q := by
  cases b : d.testBit k with
  | false => rw [ltF_out b]; exact Nat.le_refl _
  | true =>
    have h1 := ltF_in hq b
    have h2 := ar_lt (q := q) (j := trF q d k) (x := k) hq
    omega
/-! ### a hand's bits, 0 or 1 each -/
def mk (q h : Nat) : List Nat := (List.range q).map fun k => (h.testBit k).toNat
theorem mk_len (q h : Nat) : (mk q h).length = q := by
  unfold mk
  rw [List.length_map, List.length_range]
theorem mk_get {q h k : Nat} (hk : k < q) : (mk q h)[k]? = some (h.testBit k).toNat := by
  unfold mk
  rw [List.getElem?_map, List.getElem?_range hk]
  rfl
theorem mk_succ (q h : Nat) : mk (q + 1) h = mk q h ++ [(h.testBit q).toNat] := by
  unfold mk
  rw [List.range_succ, List.map_append]
  rfl
theorem bit_nat (h k : Nat) : (h.testBit k).toNat = h / 2 ^ k % 2 := by
  rw [Nat.testBit_eq_decide_div_mod_eq]
  by_cases e : h / 2 ^ k % 2 = 1
  · rw [decide_eq_true e, e]; rfl
  · rw [decide_eq_false e]
    show 0 = _
    omega
theorem mk_of {L : List Nat} {q : Nat} (hl : L.length = q) (hb : ∀ x ∈ L, x < 2) : ∃ h, h < 2 ^ q ∧ L = mk q h := by
  refine ⟨fb ((List.range q).filter fun k => decide (L[k]? = some 1)), fb_lt fun k hk => List.mem_range.mp (List.mem_filter.mp hk).1, ?_⟩
  refine List.ext_getElem? fun i => ?_
  by_cases hi : i < q
  · rw [mk_get hi]
    have hi2 : i < L.length := by omega
    have hx := hb _ (List.getElem_mem hi2)
    rw [List.getElem?_eq_getElem hi2]
    congr 1
    unfold fb
    rw [fold_bit, Nat.zero_testBit, Bool.false_or]
    by_cases e : L[i] = 1
    · rw [decide_eq_true (List.mem_filter.mpr ⟨List.mem_range.mpr hi, decide_eq_true (by rw [List.getElem?_eq_getElem hi2, e])⟩), e]
      rfl
    · rw [decide_eq_false fun z => ?_]
      · show L[i] = 0
        omega
      · have z2 := of_decide_eq_true (List.mem_filter.mp z).2
        rw [List.getElem?_eq_getElem hi2] at z2
        exact e (Option.some.inj z2)
  · rw [List.getElem?_eq_none (by omega), List.getElem?_eq_none (by rw [mk_len]; omega)]
theorem mk_small {q h x : Nat} (hx : x ∈ mk q h) : x < 2 := by
  unfold mk at hx
  obtain ⟨k, _, rfl⟩ := List.mem_map.mp hx
  cases h.testBit k <;> decide
theorem xor_bit2 (a b k : Nat) : ((a.testBit k).toNat + (b.testBit k).toNat) % 2 = ((a ^^^ b).testBit k).toNat := by
  rw [Nat.testBit_xor]
  cases a.testBit k <;> cases b.testBit k <;> rfl
/-- one bit turned -/
theorem mk_cross {q h k : Nat} (hk : k < q) : (mk q h).take k ++ [1 - (h.testBit k).toNat] ++ (mk q h).drop (k + 1) = mk q (h ^^^ 2 ^ k) := by
  refine List.ext_getElem? fun i => ?_
  have l1 : ((mk q h).take k).length = k := by rw [List.length_take, mk_len]; omega
  by_cases hi : i < q
  · rw [mk_get hi, bit_xor]
    rcases Nat.lt_trichotomy i k with c | c | c
    · rw [List.append_assoc, List.getElem?_append_left (by omega), List.getElem?_take_of_lt c, mk_get hi]
      have : ¬ k = i := by omega
      simp [this]
    · subst c
      rw [List.append_assoc, List.getElem?_append_right (by omega), l1, Nat.sub_self]
      show some (1 - (h.testBit i).toNat) = _
      cases h.testBit i <;> simp
    · rw [List.getElem?_append_right (by rw [List.length_append, l1]; show k + 1 ≤ i; omega), List.length_append, l1, List.getElem?_drop]
      have e : k + 1 + (i - (k + [1 - (h.testBit k).toNat].length)) = i := by show k + 1 + (i - (k + 1)) = i; omega
      rw [e, mk_get hi]
      have : ¬ k = i := by omega
      simp [this]
  · have z : ((mk q h).take k ++ [1 - (h.testBit k).toNat] ++ (mk q h).drop (k + 1)).length ≤ i := by
      rw [List.length_append, List.length_append, l1, List.length_drop, mk_len]
      show k + 1 + (q - (k + 1)) ≤ i
      omega
    have z2 : (mk q (h ^^^ 2 ^ k)).length ≤ i := by
      rw [mk_len]
      omega
    rw [List.getElem?_eq_none z, List.getElem?_eq_none z2]
theorem half_step (h n : Nat) : h / 2 ^ n = 2 * (h / 2 ^ (n + 1)) + h / 2 ^ n % 2 := by
  rw [Nat.pow_succ, ← Nat.div_div_eq_div_mul]
  have := Nat.div_add_mod (h / 2 ^ n) 2
  omega
/-! ### rules -/
section
variable {X : Cx}
theorem call_reprA (gd : X.A.guards = some []) (hu : X.A.units + 64 < cLine) : CallR X (.builtin "repr") (fun xs H Q => (xs = [.non] ∧ Q (.str "None") H) ∨ ∃ a d, xs = [.ref a] ∧ Dp X.K H (.ref a) d ∧ d.showable = true ∧ d.hasDict = false ∧ d.depth < 60 ∧ d.shown.length ≤ sizeLine ∧ Q (.str d.shown) H) := by
  intro pins s σ H xs us Q I r h
  rcases h with ⟨rfl, q⟩ | h
  · obtain ⟨u, rfl, ru⟩ := vals1 r
    cases ru
    exact P.repr_of_none ⟨.str "None", H, I.tok _, ⟨_, rfl⟩, q⟩
  · exact call_reprD gd hu pins s σ H xs us Q I r h
theorem op_powW : OpR X (binaryOp .Pow) (rI (fun i j => 0 ≤ j ∧ (Builtin.Int.intBits i : Int) * j ≤ 2 ^ 27) fun i j => .int (i ^ j.toNat)) := opI fun _ _ _ _ _ _ _ hc q => pow_int hc.1 hc.2 q
end
end Bf
namespace Bf
open PySem PySem.Spec PyProof.Rows L2 LamX NdefX
/-! ### more rules -/
theorem yes {σ : L2.St} {H : Hp} {A B : Hp → Prop} (h : A H) : tYes σ H (fun b H3 => if b = true then A H3 else B H3) := by
  show if true = true then A H else B H
  exact (if_pos rfl).mpr h
theorem op_fdivNN {X : Cx} : OpR X (binaryOp .FloorDiv) (fun x y H Q => ∃ n m : Nat, x = .int (n : Int) ∧ y = .int (m : Int) ∧ 0 < m ∧ m < 1073741824 ∧ Q (.int ((n / m : Nat) : Int)) H) := by
  intro pins s σ H x y v u Q I rx ry h
  obtain ⟨n, m, rfl, rfl, hm, hm2, q⟩ := h
  refine op_fdiv pins s σ H _ _ v u Q I rx ry ⟨(n : Int), (m : Int), rfl, rfl, ⟨by omega, by omega⟩, ?_⟩
  rw [Int.natCast_ediv] at q
  exact q
theorem op_mulNN {X : Cx} : OpR X (binaryOp .Mult) (fun x y H Q => ∃ n m : Nat, x = .int (n : Int) ∧ y = .int (m : Int) ∧ n < 2 ^ 63 ∧ Q (.int ((n * m : Nat) : Int)) H) := by
  intro pins s σ H x y v u Q I rx ry h
  obtain ⟨n, m, rfl, rfl, hm, q⟩ := h
  refine op_mul pins s σ H _ _ v u Q I rx ry ⟨(n : Int), (m : Int), rfl, rfl, .inl ⟨by omega, by omega⟩, ?_⟩
  rw [Int.natCast_mul] at q
  exact q
/-! ### source=0 behind a star, by any names -/
theorem kbS3 {x1 x2 x3 : Str} {K : PySem.W.Frag} {x : Str} {st : Stmt} {f : Addr} {fd : FuncData} (F : FunS K x st f fd) (h : ∀ (kV doc pm : Value) (an : Option Addr) (cdv ct a b c d : Value), bindArgs (PySem.W.fnOf x x (defArgs st) (defBody st) (defScope st) .none kV doc pm an cdv ct) ⟨[a, b, c], [(("source" : Str), d)]⟩ = pure ([(x1, a), (x2, b), (x3, c), ("source", d)] : List (Str × Value))) :
    KBinds K fd [x1, x2, x3, "source"] ["source"] g3 g3 := by
  obtain ⟨oc, od, dV, kV, doc, pm, an, cdv, ct, osl, rfl, lk, hcd, hD, hK⟩ := F.ex
  rcases hD with ⟨_, rfl⟩ | ⟨z, _⟩
  · refine ⟨fun s us ws _ hl => ?_, fun r1 r2 => g3_rel r1 r2⟩
    obtain ⟨a, b, c, d, rfl, rfl⟩ := g3_len hl
    exact .of_eq (h kV doc pm an cdv ct a b c d)
  · exact absurd rfl z
def g4 {α : Type} (us ws : List α) : List α := match us, ws with
  | [a, b, c, d], [e] => [a, b, c, d, e]
  | _, _ => []
theorem g4_rel {vs zs : List V} {us ws : List Value} (r1 : Vals vs us) (r2 : Vals zs ws) : Vals (g4 vs zs) (g4 us ws) := by
  match r1, r2 with
  | .nil, _ => exact .nil
  | .cons _ .nil, _ => exact .nil
  | .cons _ (.cons _ .nil), _ => exact .nil
  | .cons _ (.cons _ (.cons _ .nil)), _ => exact .nil
  | .cons _ (.cons _ (.cons _ (.cons _ .nil))), .nil => exact .nil
  | .cons a (.cons b (.cons c (.cons d .nil))), .cons e .nil => exact .cons a (.cons b (.cons c (.cons d (.cons e .nil))))
  | .cons _ (.cons _ (.cons _ (.cons _ .nil))), .cons _ (.cons _ _) => exact .nil
  | .cons _ (.cons _ (.cons _ (.cons _ (.cons _ _)))), _ => exact .nil
theorem g4_len {us ws : List Value} (h : (g4 us ws).length = 5) : ∃ a b c d e, us = [a, b, c, d] ∧ ws = [e] := by
  match us, ws, h with
  | [a, b, c, d], [e], _ => exact ⟨a, b, c, d, e, rfl, rfl⟩
  | [], _, h => cases h
  | [_], _, h => cases h
  | [_, _], _, h => cases h
  | [_, _, _], _, h => cases h
  | [_, _, _, _], [], h => cases h
  | [_, _, _, _], _ :: _ :: _, h => cases h
  | _ :: _ :: _ :: _ :: _ :: _, _, h => cases h
theorem kbS4 {x1 x2 x3 x4 : Str} {K : PySem.W.Frag} {x : Str} {st : Stmt} {f : Addr} {fd : FuncData} (F : FunS K x st f fd) (h : ∀ (kV doc pm : Value) (an : Option Addr) (cdv ct a b c d e : Value), bindArgs (PySem.W.fnOf x x (defArgs st) (defBody st) (defScope st) .none kV doc pm an cdv ct) ⟨[a, b, c, d], [(("source" : Str), e)]⟩ = pure ([(x1, a), (x2, b), (x3, c), (x4, d), ("source", e)] : List (Str × Value))) :
    KBinds K fd [x1, x2, x3, x4, "source"] ["source"] g4 g4 := by
  obtain ⟨oc, od, dV, kV, doc, pm, an, cdv, ct, osl, rfl, lk, hcd, hD, hK⟩ := F.ex
  rcases hD with ⟨_, rfl⟩ | ⟨z, _⟩
  · refine ⟨fun s us ws _ hl => ?_, fun r1 r2 => g4_rel r1 r2⟩
    obtain ⟨a, b, c, d, e, rfl, rfl⟩ := g4_len hl
    exact .of_eq (h kV doc pm an cdv ct a b c d e)
  · exact absurd rfl z
end Bf
namespace Bf
open PySem PySem.Spec PyProof.Rows L2 LamX NdefX
/-! ### since when -/
def farF (q d j : Nat) : Nat := (ar q j (((rb q d j).getLast?).getD 0)).toNat
def dyF (q d j : Nat) : Nat := if d.testBit j = true then farF q d j else q
def snF (q m d i : Nat) : Nat := if i + 1 = m then i + farF q d (i % q) else i + dyF q d (i % q)
theorem far_spec {q d j : Nat} (hq : 0 < q) (hd : d < 2 ^ q) (h0 : d ≠ 0) : ∃ L, (rb q d j).getLast? = some L ∧ ar q j L = (farF q d j : Int) ∧ d.testBit L = true ∧ L < q ∧ ∀ x, d.testBit x = true → ar q j x ≤ (farF q d j : Int) := by
  have hne : rb q d j ≠ [] := fun e => by
    obtain ⟨i, hi⟩ := Nat.exists_testBit_of_ne_zero h0
    have : i ∈ rb q d j := mem_rb.mpr ⟨lt_of_bit hd hi, hi⟩
    rw [e] at this
    exact absurd this List.not_mem_nil
  have e1 := List.getLast?_eq_getLast hne
  have e2 : ar q j ((rb q d j).getLast hne) = (farF q d j : Int) := by
    unfold farF
    rw [e1]
    exact (Int.toNat_of_nonneg (ar_nn hq)).symm
  obtain ⟨m1, m2⟩ := (sorted_last (rb_sorted q d j)).mp e1
  refine ⟨_, e1, e2, (mem_rb.mp m1).2, (mem_rb.mp m1).1, fun x hx => ?_⟩
  rw [← e2]
  exact m2 x (mem_rb.mpr ⟨lt_of_bit hd hx, hx⟩)
theorem far_lt {q d j : Nat} (hq : 0 < q) : farF q d j < q := by
  have h1 := ar_lt (q := q) (j := j) (x := ((rb q d j).getLast?).getD 0) hq
  have h2 := ar_nn (q := q) (j := j) (x := ((rb q d j).getLast?).getD 0) hq
  unfold farF
  omega
theorem dy_le {q d j : Nat} (hq : 0 < q) : dyF q d j ≤ q := by
  unfold dyF
  split
  · exact Nat.le_of_lt (far_lt hq)
  · exact Nat.le_refl _
theorem sn_le {q m d i : Nat} (hq : 0 < q) : snF q m d i ≤ i + q := by
  unfold snF
  split
  · have := far_lt (q := q) (d := d) (j := i % q) hq
    omega
  · have := dy_le (q := q) (d := d) (j := i % q) hq
    omega
theorem far_uniq {q d j : Nat} {v : Int} (hq : 0 < q) (hd : d < 2 ^ q) (h0 : d ≠ 0) (h1 : ∃ x, d.testBit x = true ∧ v = ar q j x) (h2 : ∀ x, d.testBit x = true → ar q j x ≤ v) : v = (farF q d j : Int) := by
  obtain ⟨L, _, e2, b, _, top⟩ := far_spec (j := j) hq hd h0
  obtain ⟨x, bx, rfl⟩ := h1
  have := top x bx
  have := h2 L b
  omega
theorem ar_modl {q j x : Nat} : ar q (j % q) x = ar q j x := by
  unfold ar
  rw [Int.natCast_emod]
  rw [Int.sub_emod, Int.emod_emod_of_dvd _ (Int.dvd_refl _), ← Int.sub_emod]
theorem far_back {q i L : Nat} (hq : 0 < q) (hL : L < q) : (((i + q - 1 : Nat) : Int) - ar q L ((i + q - 1) % q)) = (i : Int) + ar q (i % q) L := by
  have h1 := ar_next (q := q) (st := L) (k := (i + q - 1) % q) (x := L) hq
  rw [ar_self] at h1
  have nn := ar_nn (q := q) (j := L) (x := (i + q - 1) % q) hq
  rw [if_neg (by omega)] at h1
  have e : ((i + q - 1) % q + 1) % q = i % q := by
    rw [Nat.mod_add_mod, show i + q - 1 + 1 = i + q by omega, Nat.add_mod_right]
  have h2 : ar q ((i + q - 1) % q + 1) L = ar q (i % q) L := by rw [← ar_modl, e]
  rw [← h2, h1]
  omega
theorem mk_set {q h k : Nat} (hk : k < q) : (mk q h).set k (1 - (h.testBit k).toNat) = mk q (h ^^^ 2 ^ k) := by
  rw [← mk_cross hk, List.set_eq_take_append_cons_drop, if_pos (by rw [mk_len]; exact hk), List.append_assoc]
  rfl
theorem nv_set (ks : List Nat) (k v : Nat) : (nv ks).set k (.int (v : Int)) = nv (ks.set k v) := by
  unfold nv
  rw [List.map_set]
theorem no_bits {q d : Nat} (hd : d < 2 ^ q) (h : ∀ k, k < q → d.testBit k = false) : d = 0 := by
  refine Nat.eq_of_testBit_eq fun i => ?_
  rw [Nat.zero_testBit]
  cases e : d.testBit i with
  | false => rfl
  | true =>
    have := h i (lt_of_bit hd e)
    rw [e] at this
    cases this
theorem in_mk {q d : Nat} (hd : d < 2 ^ q) : inV (.int 1) (nv (mk q d)) = decide (d ≠ 0) := by
  by_cases h0 : d = 0
  · subst h0
    have : inV (.int 1) (nv (mk q 0)) = false := by
      unfold inV nv mk
      rw [List.any_map, List.any_map, List.any_eq_false]
      intro x _
      show ¬ eqV (.int (((Nat.testBit 0 x).toNat : Nat) : Int)) (.int 1) = true
      rw [Nat.zero_testBit]
      decide
    rw [this]
    rfl
  · have : inV (.int 1) (nv (mk q d)) = true := by
      obtain ⟨i, hi⟩ := Nat.exists_testBit_of_ne_zero h0
      unfold inV nv mk
      rw [List.any_map, List.any_map, List.any_eq_true]
      refine ⟨i, List.mem_range.mpr (lt_of_bit hd hi), ?_⟩
      show eqV (.int (((Nat.testBit d i).toNat : Nat) : Int)) (.int 1) = true
      rw [hi]
      rfl
    rw [this]
    exact (decide_eq_true h0).symm
theorem flat_nv (ks : List Nat) : (nv ks).all flatV = true := by
  unfold nv
  rw [List.all_map, List.all_eq_true]
  intro x _
  rfl
end Bf
namespace Bf
open PySem PySem.Spec PyProof.Rows L2 LamX NdefX
/-! ### what is heard, and first heard -/
theorem ar_add {q i e : Nat} (he : e < q) : ar q (i % q) ((i + e) % q) = (e : Int) := by
  have h := ar_at (q := q) (i % q) he
  rw [Nat.mod_add_mod] at h
  exact h
theorem arc_to {q j k : Nat} (hj : j < q) (hk : k < q) : ((j : Int) + ar q j k) % (q : Int) = k := by
  obtain ⟨i, hi, rfl⟩ := at_of j hk
  rw [ar_at j hi]
  have : ((j : Int) + (i : Int)) % (q : Int) = ((((j + i) % q : Nat)) : Int) := by
    rw [Int.natCast_emod, Int.natCast_add]
  exact this
/-- the letter heard at a beat by a hand of this set -/
def duF (q m d t : Nat) : Option Nat := if t < ltF q d (t % q) then none else some (min (t - ltF q d (t % q)) (m - 1))
theorem tree_mod {q d t : Nat} (hq : 0 < q) (b : d.testBit (t % q) = true) (h : ¬ t < ltF q d (t % q)) : (t - ltF q d (t % q)) % q = trF q d (t % q) := by
  have hk : t % q < q := Nat.mod_lt _ hq
  have h1 := ltF_in hq b
  have hj := trF_lt (d := d) hk
  generalize trF q d (t % q) = j at *
  generalize hl : ltF q d (t % q) = l at *
  -- t ≡ j + l
  have h2 := arc_to hj hk
  rw [← h1] at h2
  have h3 : (j + l) % q = t % q := by
    have : (((j + l) % q : Nat) : Int) = ((t % q : Nat) : Int) := by rw [Int.natCast_emod, Int.natCast_add]; exact h2
    exact Int.ofNat.inj this
  obtain ⟨c, hc⟩ := Nat.exists_eq_add_of_le (Nat.le_of_not_lt h)
  subst hc
  rw [Nat.add_sub_cancel_left]
  refine turn_inj (by' := l) (Nat.mod_lt _ hq) hj ?_
  rw [Nat.mod_add_mod, h3, Nat.add_comm c l]
/-- the last bit crossed on a way of a tree of the set is the farthest -/
theorem far_last {q d k : Nat} (hq : 0 < q) (hd : d < 2 ^ q) (hk : k < q) (b : d.testBit k = true) : farF q d (trF q d k) = ltF q d k := by
  have hb := (trF_in hk b).2
  have hj := (trF_in hk b).1
  have h0 : d ≠ 0 := fun e => by rw [e, Nat.zero_testBit] at b; cases b
  have e1 := trF_last (d := d) hk
  rw [cl_in hj hb] at e1
  obtain ⟨L, e2, e3, _⟩ := far_spec (j := trF q d k) hq hd h0
  rw [e1] at e2
  have : k = L := Option.some.inj e2
  subst this
  have := ltF_in hq b
  omega
/-- what comes first comes by its own beat -/
theorem due_at {q m d i : Nat} (hq : 0 < q) (hd : d < 2 ^ q) (h0 : d ≠ 0) (hi : i < m) : duF q m d (snF q m d i) = some i := by
  have hj : i % q < q := Nat.mod_lt _ hq
  obtain ⟨L, e2, e3, bL, hL, top⟩ := far_spec (j := i % q) hq hd h0
  have fl := far_lt (q := q) (d := d) (j := i % q) hq
  have eL : (i + farF q d (i % q)) % q = L := by
    have h2 := arc_to hj hL
    rw [e3] at h2
    have : (((i % q + farF q d (i % q)) % q : Nat) : Int) = (L : Int) := by rw [Int.natCast_emod, Int.natCast_add]; exact h2
    have := Int.ofNat.inj this
    rw [Nat.mod_add_mod] at this
    exact this
  unfold snF
  by_cases hl : i + 1 = m
  · rw [if_pos hl]
    unfold duF
    rw [eL]
    have hle : ltF q d L ≤ farF q d (i % q) := by
      have h1 := ltF_in hq bL
      obtain ⟨hj', bj'⟩ := trF_in hL bL
      have h2 := ar_from (q := q) (st := i % q) (k := trF q d L) (x := L) hq
      have h3 := top _ bj'
      rw [← e3] at h3
      rw [if_pos h3] at h2
      have := ar_nn (q := q) (j := i % q) (x := trF q d L) hq
      omega
    rw [if_neg (by omega)]
    congr 1
    omega
  · rw [if_neg hl]
    unfold dyF
    cases b : d.testBit (i % q) with
    | true =>
      rw [if_pos rfl]
      unfold duF
      rw [eL]
      have e4 : i % q = trF q d L := (trF_iff hj hL).mp (by rw [cl_in hj b]; exact e2)
      have e5 : ltF q d L = farF q d (i % q) := by rw [e4]; exact (far_last hq hd hL bL).symm
      rw [e5, if_neg (by omega)]
      congr 1
      omega
    | false =>
      rw [if_neg (by decide)]
      unfold duF
      rw [Nat.add_mod_right, ltF_out b, if_neg (by omega)]
      congr 1
      omega
/-- all bits of the set are crossed by then -/
theorem bits_by {q d st k x : Nat} (hq : 0 < q) (hk : k < q) (b : d.testBit k = true) (hst : (ltF q d k : Int) ≤ ar q st k) (hx : x < q) (bx : d.testBit x = true) : ar q st x ≤ ar q st k := by
  refine Classical.byContradiction fun hc => ?_
  obtain ⟨hj, bj⟩ := trF_in hk b
  have h1 := ltF_in hq b
  have eh := trF_head hk b
  have least : ar q (k + 1) (trF q d k) ≤ ar q (k + 1) x := by
    have mx : x ∈ rb q d (k + 1) := mem_rb.mpr ⟨hx, bx⟩
    have hs := rb_sorted q d (k + 1)
    cases e : rb q d (k + 1) with
    | nil => rw [e] at mx; exact absurd mx List.not_mem_nil
    | cons z l =>
      rw [e] at mx hs eh
      have ez : z = trF q d k := Option.some.inj eh
      rw [← ez]
      rcases List.mem_cons.mp mx with rfl | mx
      · exact Int.le_refl _
      · exact Int.le_of_lt ((List.pairwise_cons.mp hs).1 x mx)
  have n1 := ar_next (q := q) (st := st) (k := k) (x := x) hq
  have n2 := ar_next (q := q) (st := st) (k := k) (x := trF q d k) hq
  have n3 := ar_from (q := q) (st := st) (k := trF q d k) (x := k) hq
  have a1 := ar_lt (q := q) (j := st) (x := x) hq
  have a2 := ar_nn (q := q) (j := st) (x := trF q d k) hq
  have a3 := ar_lt (q := q) (j := st) (x := trF q d k) hq
  rw [if_pos (by omega)] at n1
  by_cases c : ar q st (trF q d k) ≤ ar q st k
  · rw [if_neg (by omega)] at n2
    omega
  · rw [if_neg c] at n3
    omega
/-- what is heard was heard by then, and who tells it had it ahead -/
theorem heard_by {q m d t i : Nat} (hq : 0 < q) (hm : 0 < m) (hd : d < 2 ^ q) (h0 : d ≠ 0) (h : duF q m d t = some i) : i < m ∧ snF q m d i ≤ t ∧ (d ^^^ 2 ^ (t % q) = 0 ∨ snF q m (d ^^^ 2 ^ (t % q)) i < t) := by
  have hk : t % q < q := Nat.mod_lt _ hq
  unfold duF at h
  split at h
  · cases h
  rename_i hlt
  have ei := Option.some.inj h
  have hd' : d ^^^ 2 ^ (t % q) < 2 ^ q := Nat.xor_lt_two_pow hd (Nat.pow_lt_pow_right (by decide) hk)
  have far' : ∀ st e, (∀ x, (d ^^^ 2 ^ (t % q)).testBit x = true → ar q st x < e) → d ^^^ 2 ^ (t % q) ≠ 0 → (farF q (d ^^^ 2 ^ (t % q)) st : Int) < e := fun st e hx hne => by
    obtain ⟨L, _, e3, bL, _, _⟩ := far_spec (j := st) hq hd' hne
    rw [← e3]
    exact hx L bL
  by_cases hlast : t - ltF q d (t % q) < m - 1
  · have ei2 : i = t - ltF q d (t % q) := by omega
    refine ⟨by omega, ?_⟩
    unfold snF
    rw [if_neg (by omega), if_neg (by omega)]
    cases b : d.testBit (t % q) with
    | true =>
      have em : i % q = trF q d (t % q) := by rw [ei2]; exact tree_mod hq b hlt
      obtain ⟨hj, bj⟩ := trF_in hk b
      have fl := far_last hq hd hk b
      unfold dyF
      rw [em, if_pos bj, fl]
      refine ⟨by omega, ?_⟩
      by_cases z : d ^^^ 2 ^ (t % q) = 0
      · exact .inl z
      refine .inr ?_
      have l1 := ltF_in hq b
      have hlt2 := far' (trF q d (t % q)) (ltF q d (t % q)) (fun x hx => ?_) z
      · have bj' : (d ^^^ 2 ^ (t % q)).testBit (trF q d (t % q)) = true := by
          rw [bit_xor, bj]
          by_cases e : t % q = trF q d (t % q)
          · exfalso
            -- the only bit
            have e0 : ltF q d (t % q) = 0 := by
              rw [← e, ar_self] at l1
              omega
            rw [e0] at hlt2
            omega
          · rw [decide_eq_false e]
            rfl
        rw [if_pos bj']
        omega
      · rw [bit_xor] at hx
        have hne : t % q ≠ x := fun e => by
          subst e
          rw [b, decide_eq_true rfl] at hx
          cases hx
        rw [decide_eq_false hne, Bool.xor_false] at hx
        have hxq := lt_of_bit hd hx
        obtain ⟨L, _, e3, _, _, top⟩ := far_spec (j := trF q d (t % q)) hq hd h0
        have h1 := top x hx
        have h2 : ar q (trF q d (t % q)) x ≠ ar q (trF q d (t % q)) (t % q) := fun e => hne (ar_inj hxq hk e).symm
        omega
    | false =>
      have l1 := ltF_out (q := q) b
      rw [l1] at hlt ei2
      have em : i % q = t % q := by
        rw [ei2]
        obtain ⟨c, hc⟩ := Nat.exists_eq_add_of_le (Nat.le_of_not_lt hlt)
        rw [hc, Nat.add_sub_cancel_left, Nat.add_mod_left]
      unfold dyF
      rw [em, b, if_neg (by decide)]
      refine ⟨by omega, .inr ?_⟩
      have bj' : (d ^^^ 2 ^ (t % q)).testBit (t % q) = true := by
        rw [bit_xor, b, decide_eq_true rfl]
        rfl
      rw [if_pos bj']
      have := far_lt (q := q) (d := d ^^^ 2 ^ (t % q)) (j := t % q) hq
      omega
  · have ei2 : i = m - 1 := by omega
    refine ⟨by omega, ?_⟩
    unfold snF
    rw [if_pos (by omega), if_pos (by omega)]
    have f1 := far_lt (q := q) (d := d) (j := i % q) hq
    have f2 := far_lt (q := q) (d := d ^^^ 2 ^ (t % q)) (j := i % q) hq
    by_cases hbig : i + q ≤ t
    · exact ⟨by omega, .inr (by omega)⟩
    cases b : d.testBit (t % q) with
    | false =>
      have l1 := ltF_out (q := q) b
      omega
    | true =>
      obtain ⟨e, he⟩ := Nat.exists_eq_add_of_le (show i ≤ t by omega)
      have heq : e < q := by omega
      have ea : ar q (i % q) (t % q) = (e : Int) := by rw [he]; exact ar_add heq
      have all : ∀ x, d.testBit x = true → ar q (i % q) x ≤ (e : Int) := fun x bx => by
        rw [← ea]
        exact bits_by hq hk b (by rw [ea]; omega) (lt_of_bit hd bx) bx
      constructor
      · obtain ⟨L, _, e3, bL, _, _⟩ := far_spec (j := i % q) hq hd h0
        have := all L bL
        omega
      · by_cases z : d ^^^ 2 ^ (t % q) = 0
        · exact .inl z
        refine .inr ?_
        have := far' (i % q) e (fun x hx => ?_) z
        · omega
        · rw [bit_xor] at hx
          have hne : t % q ≠ x := fun e => by
            subst e
            rw [b, decide_eq_true rfl] at hx
            cases hx
          rw [decide_eq_false hne, Bool.xor_false] at hx
          have h1 := all x hx
          have h2 : ar q (i % q) x ≠ ar q (i % q) (t % q) := fun e => hne (ar_inj (lt_of_bit hd hx) hk e).symm
          omega
end Bf
namespace Bf
open PySem PySem.Spec PyProof.Rows L2 LamX NdefX
/-! ### None, truths and numbers as data -/
def sd : V → PyData
  | .non => .none
  | .bl b => .bool b
  | .int n => .int n
  | _ => .none
def SmV (v : V) : Prop := v = .non ∨ (∃ b, v = .bl b) ∨ ∃ n : Nat, n < 2 ^ 61 ∧ v = .int (n : Int)
theorem SmV.non : SmV .non := .inl rfl
theorem SmV.bl (b : Bool) : SmV (.bl b) := .inr (.inl ⟨b, rfl⟩)
theorem SmV.int {n : Nat} (h : n < 2 ^ 61) : SmV (.int (n : Int)) := .inr (.inr ⟨n, h, rfl⟩)
theorem SmV.dp {K : PySem.W.Frag} {H : Hp} {v : V} (h : SmV v) : Dp K H v (sd v) := by
  rcases h with rfl | ⟨b, rfl⟩ | ⟨n, _, rfl⟩
  · exact .non
  · exact .bl _
  · exact .int _
theorem sm_dp {K : PySem.W.Frag} {H : Hp} : ∀ vs : List V, (∀ v ∈ vs, SmV v) → DpAll K H vs (vs.map sd)
  | [], _ => .nil
  | v :: vs, h => .cons (h v List.mem_cons_self).dp (sm_dp vs fun x hx => h x (List.mem_cons_of_mem _ hx))
theorem sm_show : ∀ vs : List V, (∀ v ∈ vs, SmV v) → PyData.showableAll (vs.map sd) = true ∧ PyData.hasDictAll (vs.map sd) = false ∧ PyData.depthAll (vs.map sd) ≤ 1 ∧ PyData.leavesShortAll 64 (vs.map sd) = true ∧ PyData.weightAll (vs.map sd) ≤ 63 * vs.length
  | [], _ => ⟨rfl, rfl, by simp [PyData.depthAll], rfl, Nat.le_refl _⟩
  | v :: vs, h => by
    obtain ⟨i1, i2, i3, i4, i5⟩ := sm_show vs fun x hx => h x (List.mem_cons_of_mem _ hx)
    have hv : PyData.showable (sd v) = true ∧ PyData.hasDict (sd v) = false ∧ PyData.depth (sd v) ≤ 1 ∧ PyData.leavesShort 64 (sd v) = true ∧ PyData.weight (sd v) ≤ 62 := by
      rcases h v List.mem_cons_self with rfl | ⟨b, rfl⟩ | ⟨n, hn, rfl⟩
      · exact ⟨rfl, rfl, by decide, by decide, by decide⟩
      · cases b
        · exact ⟨rfl, rfl, by decide, by decide, by decide⟩
        · exact ⟨rfl, rfl, by decide, by decide, by decide⟩
      · have z1 := nd_show [n] (fun x hx => by rw [List.mem_singleton.mp hx]; exact hn)
        have z4 := nd_leaves [n] (fun x hx => by rw [List.mem_singleton.mp hx]; exact hn)
        have z5 := nd_weight [n] (fun x hx => by rw [List.mem_singleton.mp hx]; exact hn)
        have w1 : (PyData.showable (.int (n : Int)) && true) = true := z1
        have w4 : (PyData.leavesShort 64 (.int (n : Int)) && true) = true := z4
        have w5 : PyData.weight (.int (n : Int)) + 1 + 0 ≤ 63 * 1 := z5
        rw [Bool.and_true] at w1 w4
        exact ⟨w1, rfl, by show PyData.depth (.int (n : Int)) ≤ 1; simp [PyData.depth], w4, by show PyData.weight (.int (n : Int)) ≤ 62; omega⟩
    obtain ⟨h1, h2, h3, h4, h5⟩ := hv
    refine ⟨?_, ?_, ?_, ?_, ?_⟩
    · show (PyData.showable (sd v) && PyData.showableAll (vs.map sd)) = true
      rw [h1, i1]; rfl
    · show (PyData.hasDict (sd v) || PyData.hasDictAll (vs.map sd)) = false
      rw [h2, i2]; rfl
    · show max (PyData.depth (sd v)) (PyData.depthAll (vs.map sd)) ≤ 1
      omega
    · show (PyData.leavesShort 64 (sd v) && PyData.leavesShortAll 64 (vs.map sd)) = true
      rw [h4, i4]; rfl
    · show PyData.weight (sd v) + 1 + PyData.weightAll (vs.map sd) ≤ 63 * (vs.length + 1)
      omega
theorem sm_rep {vs : List V} (h : ∀ v ∈ vs, SmV v) (hl : vs.length ≤ 1000) : (PyData.list (vs.map sd)).showable = true ∧ (PyData.list (vs.map sd)).hasDict = false ∧ (PyData.list (vs.map sd)).depth < 60 ∧ (PyData.list (vs.map sd)).shown.length ≤ sizeLine := by
  obtain ⟨i1, i2, i3, i4, i5⟩ := sm_show vs h
  refine ⟨i1, i2, ?_, ?_⟩
  · show PyData.depthAll (vs.map sd) + 1 < 60
    omega
  · have h1 := PyData.shown_le 64 (by decide) (.list (vs.map sd)) i4
    have h2 : PyData.weight (.list (vs.map sd)) ≤ 63 * vs.length := i5
    rw [sizeLine_eq]
    have h3 : (64 + 2) * PyData.weight (.list (vs.map sd)) ≤ 66 * (63 * 1000) := Nat.mul_le_mul (by decide) (by omega)
    omega
/-- repr of None or a number -/
theorem call_reprO {X : Cx} : CallR X (.builtin "repr") (fun xs H Q => (xs = [.non] ∧ Q (.str "None") H) ∨ ∃ i : Int, xs = [.int i] ∧ i.natAbs.log2 < 1920 ∧ Q (.str (toString i)) H) := by
  intro pins s σ H xs us Q I r h
  rcases h with ⟨rfl, q⟩ | h
  · obtain ⟨u, rfl, ru⟩ := vals1 r
    cases ru
    exact P.repr_of_none ⟨.str "None", H, I.tok _, ⟨_, rfl⟩, q⟩
  · exact call_reprN pins s σ H xs us Q I r h
theorem rd_ifV {tt : TT} {ta tb : TE} {σ : L2.St} {H : Hp} {Q : VK} (b : Bool) (v : V) (h0 : ∀ Q' : Bool → Hp → Prop, Q' b H → tt σ H Q') (h1 : b = true → Gives ta σ H v) (h2 : b = false → Gives tb σ H v) (h : Q v H) : tIf tt ta tb σ H Q := by
  refine h0 _ ?_
  cases b with
  | true => exact iteT (h1 rfl _ h)
  | false => exact iteF (h2 rfl _ h)
theorem rd_ifF {tt : TT} {A B : TS} {D : Ends} {σ : L2.St} {H : Hp} (h0 : ∀ Q' : Bool → Hp → Prop, Q' false H → tt σ H Q') (h : B D σ H) : tIfS tt A B D σ H := h0 _ (iteF h)
/-! ### the last beat -/
def lbF (q m d : Nat) : Nat := if m = 1 then snF q m d 0 else m - 2 + q
theorem lb_top {q m d i : Nat} (hq : 0 < q) (hi : i < m) : snF q m d i ≤ lbF q m d := by
  unfold lbF
  by_cases e : m = 1
  · rw [if_pos e]
    have : i = 0 := by omega
    subst this
    exact Nat.le_refl _
  · rw [if_neg e]
    unfold snF
    have h1 := far_lt (q := q) (d := d) (j := i % q) hq
    have h2 := dy_le (q := q) (d := d) (j := i % q) hq
    split <;> omega
theorem lb_is {q m d : Nat} (hq : 0 < q) (hm : 0 < m) (hd : d < 2 ^ q) (h0 : d ≠ 0) : ∃ i, i < m ∧ snF q m d i = lbF q m d := by
  unfold lbF
  by_cases e : m = 1
  · rw [if_pos e]
    exact ⟨0, by omega, rfl⟩
  · rw [if_neg e]
    cases b : d.testBit ((m - 2) % q) with
    | false =>
      refine ⟨m - 2, by omega, ?_⟩
      unfold snF dyF
      rw [if_neg (by omega), b]
      rfl
    | true =>
      refine ⟨m - 1, by omega, ?_⟩
      unfold snF
      rw [if_pos (by omega)]
      obtain ⟨L, _, e3, _, _, top⟩ := far_spec (j := (m - 1) % q) hq hd h0
      have h1 := top _ b
      have h2 := far_lt (q := q) (d := d) (j := (m - 1) % q) hq
      have e4 : ar q ((m - 1) % q) ((m - 2) % q) = (q : Int) - 1 := by
        have h3 := ar_add (q := q) (i := m - 1) (e := q - 1) (by omega)
        have e5 : (m - 1 + (q - 1)) % q = (m - 2) % q := by
          rw [show m - 1 + (q - 1) = m - 2 + q by omega, Nat.add_mod_right]
        rw [e5] at h3
        omega
      omega
theorem lb_one {q d : Nat} (hq : 0 < q) (hd : d < 2 ^ q) (h0 : d ≠ 0) : lbF q 1 d ≤ q - 1 ∧ (d.testBit (q - 1) = true → lbF q 1 d = q - 1) := by
  unfold lbF snF
  rw [if_pos rfl, if_pos rfl, Nat.zero_mod, Nat.zero_add]
  have h2 := far_lt (q := q) (d := d) (j := 0) hq
  refine ⟨by omega, fun b => ?_⟩
  obtain ⟨L, _, e3, _, _, top⟩ := far_spec (j := 0) hq hd h0
  have h1 := top _ b
  have h3 := ar_at (q := q) 0 (i := q - 1) (by omega)
  rw [Nat.zero_add, Nat.mod_eq_of_lt (by omega)] at h3
  omega
end Bf
namespace Bf
open PySem PySem.Spec PyProof.Rows L2 LamX NdefX
/-! ### each letter once -/
theorem heard_once {q m d t i : Nat} (hq : 0 < q) (hm : 0 < m) (hd : d < 2 ^ q) (h0 : d ≠ 0) (hi : i + 1 < m) (h : duF q m d t = some i) : snF q m d i = t := by
  have hk : t % q < q := Nat.mod_lt _ hq
  unfold duF at h
  split at h
  · cases h
  rename_i hlt
  have ei := Option.some.inj h
  have ei2 : i = t - ltF q d (t % q) := by omega
  unfold snF
  rw [if_neg (by omega)]
  cases b : d.testBit (t % q) with
  | true =>
    have em : i % q = trF q d (t % q) := by rw [ei2]; exact tree_mod hq b hlt
    obtain ⟨hj, bj⟩ := trF_in hk b
    have fl := far_last hq hd hk b
    unfold dyF
    rw [em, if_pos bj, fl]
    omega
  | false =>
    have l1 := ltF_out (q := q) b
    rw [l1] at hlt ei2
    have em : i % q = t % q := by
      rw [ei2]
      obtain ⟨c, hc⟩ := Nat.exists_eq_add_of_le (Nat.le_of_not_lt hlt)
      rw [hc, Nat.add_sub_cancel_left, Nat.add_mod_left]
    unfold dyF
    rw [em, b, if_neg (by decide)]
    omega
/-- the beats of a stretch at which a letter is heard -/
def onL (q m d i lo n : Nat) : List Nat := ((List.range n).map fun r => lo + r).filter fun t => decide (duF q m d t = some i)
theorem onL_succ (q m d i lo n : Nat) : onL q m d i lo (n + 1) = onL q m d i lo n ++ (if duF q m d (lo + n) = some i then [lo + n] else []) := by
  unfold onL
  rw [List.range_succ, List.map_append, List.filter_append]
  by_cases e : duF q m d (lo + n) = some i <;> simp [e]
theorem onL_len (q m d i lo n : Nat) : (onL q m d i lo n).length ≤ n := by
  unfold onL
  have := List.length_filter_le (fun t => decide (duF q m d t = some i)) ((List.range n).map fun r => lo + r)
  rw [List.length_map, List.length_range] at this
  exact this
theorem onL_mem {q m d i lo n t : Nat} : t ∈ onL q m d i lo n ↔ (lo ≤ t ∧ t < lo + n) ∧ duF q m d t = some i := by
  unfold onL
  rw [List.mem_filter, List.mem_map]
  constructor
  · rintro ⟨⟨r, hr, rfl⟩, hp⟩
    have := List.mem_range.mp hr
    exact ⟨⟨by omega, by omega⟩, of_decide_eq_true hp⟩
  · rintro ⟨⟨h1, h2⟩, hp⟩
    exact ⟨⟨t - lo, List.mem_range.mpr (by omega), by omega⟩, decide_eq_true hp⟩
theorem onL_sorted (q m d i lo n : Nat) : (onL q m d i lo n).Pairwise (fun (a b : Nat) => (a : Int) < (b : Int)) := by
  unfold onL
  refine List.Pairwise.filter _ ?_
  rw [List.pairwise_map]
  exact List.pairwise_lt_range.imp fun {a b} h => by omega
theorem on_one {q m d i : Nat} (hq : 0 < q) (hd : d < 2 ^ q) (h0 : d ≠ 0) (hi : i + 1 < m) : onL q m d i (i - 2) (i + q + 2 - (i - 2)) = [snF q m d i] := by
  refine uniq_sorted (key := fun n : Nat => (n : Int)) (onL_sorted ..) (List.pairwise_singleton _ _) fun x => ?_
  rw [onL_mem, List.mem_singleton]
  constructor
  · exact fun h => (heard_once hq (by omega) hd h0 hi h.2).symm
  · rintro rfl
    have h1 := due_at (m := m) hq hd h0 (show i < m by omega)
    have h2 := sn_le (q := q) (m := m) (d := d) (i := i) hq
    have h3 : i ≤ snF q m d i := by
      unfold snF
      split <;> omega
    exact ⟨⟨by omega, by omega⟩, h1⟩
theorem due_late {q m d t : Nat} (hq : 0 < q) (hm : 0 < m) (ht : m - 1 + q ≤ t) : duF q m d t = some (m - 1) := by
  unfold duF
  have := ltF_le (q := q) (d := d) (k := t % q) hq
  rw [if_neg (by omega)]
  congr 1
  omega
theorem on_last {q m d i : Nat} (hq : 0 < q) (hd : d < 2 ^ q) (h0 : d ≠ 0) (hi : i + 1 = m) : ∃ l, onL q m d i (i - 2) (i + q + 2 - (i - 2)) = snF q m d i :: l := by
  have h1 := due_at (m := m) hq hd h0 (show i < m by omega)
  have h2 := sn_le (q := q) (m := m) (d := d) (i := i) hq
  have h3 : i ≤ snF q m d i := by
    unfold snF
    split <;> omega
  have hmem : snF q m d i ∈ onL q m d i (i - 2) (i + q + 2 - (i - 2)) := onL_mem.mpr ⟨⟨by omega, by omega⟩, h1⟩
  have hs := onL_sorted q m d i (i - 2) (i + q + 2 - (i - 2))
  cases e : onL q m d i (i - 2) (i + q + 2 - (i - 2)) with
  | nil => rw [e] at hmem; exact absurd hmem List.not_mem_nil
  | cons a l =>
    have ha : a ∈ onL q m d i (i - 2) (i + q + 2 - (i - 2)) := by rw [e]; exact List.mem_cons_self
    have hle := (heard_by hq (by omega) hd h0 (onL_mem.mp ha).2).2.1
    rw [e] at hmem hs
    rcases List.mem_cons.mp hmem with e1 | e1
    · exact ⟨l, by rw [e1]⟩
    · have := (List.pairwise_cons.mp hs).1 _ e1
      omega
theorem on_late {q m d i : Nat} (hq : 0 < q) (hi : i + 1 = m) : (onL q m d i (i - 2) (i + q + 2 - (i - 2))).filter (fun t => decide (i + q ≤ t)) = [i + q, i + q + 1] := by
  refine uniq_sorted (key := fun n : Nat => (n : Int)) (List.Pairwise.filter _ (onL_sorted ..)) (by simp) fun x => ?_
  rw [List.mem_filter, onL_mem]
  have em : m - 1 = i := by omega
  constructor
  · rintro ⟨⟨⟨h1, h2⟩, _⟩, h3⟩
    have := of_decide_eq_true h3
    have : x = i + q ∨ x = i + q + 1 := by omega
    rcases this with rfl | rfl <;> simp
  · intro h
    have : x = i + q ∨ x = i + q + 1 := by simpa using h
    have hd2 := due_late (q := q) (m := m) (d := d) (t := x) hq (by omega) (by omega)
    rw [em] at hd2
    exact ⟨⟨⟨by omega, by omega⟩, hd2⟩, decide_eq_true (by omega)⟩
end Bf
namespace Bf
open PySem PySem.Spec PyProof.Rows L2
/-! ### ways grow -/
theorem tp_bit {q d j n : Nat} (hj : j < q) (hn : n < q) : tp q (d ^^^ 2 ^ j) j n = tp q d j n := by
  unfold tp
  refine List.filter_congr fun x hx => ?_
  obtain ⟨i, hi, rfl⟩ := List.mem_map.mp hx
  have hi := List.mem_range.mp hi
  have ea := ar_at (q := q) (i := 1 + i) j (by omega)
  have hne : ¬ j = (j + (1 + i)) % q := fun z => by
    rw [← z, ar_self] at ea
    omega
  rw [bit_xor, decide_eq_false hne, Bool.xor_false]
theorem grow {q d j k : Nat} (hj : j < q) (hk : k < q) (hd : d < 2 ^ q) (hr : Hr q d j k) : (d = 0 → k = j ∧ cl q (d ^^^ 2 ^ k) j = [k]) ∧ (d ≠ 0 → cl q (d ^^^ 2 ^ k) j = cl q d j ++ [k]) := by
  have hq : 0 < q := by omega
  rcases (hr_iff hj hk hd).mp hr with ⟨rfl, h⟩ | ⟨b, hne, hlt⟩
  · constructor
    · intro e
      subst e
      refine ⟨rfl, ?_⟩
      have b1 : (0 ^^^ 2 ^ k).testBit k = true := by rw [bit_xor, Nat.zero_testBit, decide_eq_true rfl]; rfl
      have e1 : tp q (0 ^^^ 2 ^ k) k (q - 1) = tp q 0 k (q - 1) := tp_bit hj (by omega)
      have e2 : tp q 0 k (q - 1) = [] := by
        unfold tp
        simp
      unfold cl
      rw [b1, e1, e2]
      rfl
    · intro e
      have b : d.testBit k = true := h.resolve_left e
      have b1 : (d ^^^ 2 ^ k).testBit k = false := by rw [bit_xor, b, decide_eq_true rfl]; rfl
      have e1 : tp q (d ^^^ 2 ^ k) k (q - 1) = tp q d k (q - 1) := tp_bit hj (by omega)
      unfold cl
      rw [b1, b, e1]
      simp
  · have e0 : d ≠ 0 := fun z => by
      rw [z, Nat.zero_testBit] at b
      cases b
    refine ⟨fun z => absurd z e0, fun _ => ?_⟩
    have hkj : ¬ k = j := hne
    have b1 : (d ^^^ 2 ^ k).testBit j = true := by rw [bit_xor, b, decide_eq_false hkj]; rfl
    have bk : d.testBit k = false := by
      cases z : d.testBit k with
      | false => rfl
      | true => exact absurd (hlt k z) (Int.lt_irrefl _)
    rw [cl_in hj b1, cl_in hj b]
    refine uniq_sorted (key := fun x => ar q j x) (rb_sorted q _ j) ?_ fun x => ?_
    · refine List.pairwise_append.mpr ⟨rb_sorted q d j, List.pairwise_singleton _ _, fun x hx y hy => ?_⟩
      rw [List.mem_singleton.mp hy]
      exact hlt x (mem_rb.mp hx).2
    · rw [List.mem_append, List.mem_singleton, mem_rb, mem_rb, bit_xor]
      by_cases e : k = x
      · subst e
        rw [bk, decide_eq_true rfl]
        simp [hk]
      · rw [decide_eq_false e, Bool.xor_false]
        simp [Ne.symm (show k ≠ x from e)]
/-- back by the last crossing -/
theorem back {q d j : Nat} (hj : j < q) (hd : d < 2 ^ q) : ∃ k, k < q ∧ (cl q d j).getLast? = some k ∧ Hr q (d ^^^ 2 ^ k) j k ∧ d ^^^ 2 ^ k < 2 ^ q ∧ d = (d ^^^ 2 ^ k) ^^^ 2 ^ k := by
  have hne := cl_ne q d j
  have e2 : ∀ k, (d ^^^ 2 ^ k) ^^^ 2 ^ k = d := fun k => by rw [Nat.xor_assoc, Nat.xor_self, Nat.xor_zero]
  have hk : (cl q d j).getLast hne < q := cl_lt hj (List.getLast_mem hne)
  refine ⟨_, hk, List.getLast?_eq_getLast hne, ?_, Nat.xor_lt_two_pow hd (Nat.pow_lt_pow_right (by decide) hk), (e2 _).symm⟩
  unfold Hr
  rw [e2]
  exact List.getLast?_eq_getLast hne
/-- the part up to each hand on a way is that hand's own way -/
theorem part {q j : Nat} (hj : j < q) : ∀ (n : Nat) (d : Nat), d < 2 ^ q → (cl q d j).length = n → ∀ i, 1 ≤ i → i ≤ n → wf 0 ((cl q d j).take i) < 2 ^ q ∧ cl q (wf 0 ((cl q d j).take i)) j = (cl q d j).take i
  | 0, d, hd, hl, i, h1, h2 => absurd h1 (by omega)
  | n + 1, d, hd, hl, i, h1, h2 => by
    by_cases e : i = n + 1
    · rw [e, ← hl, List.take_length, wf_cl hj hd, Nat.zero_xor]
      exact ⟨hd, rfl⟩
    · obtain ⟨k, hk, _, hr, hd', ed⟩ := back hj hd
      obtain ⟨g1, g2⟩ := grow hj hk hd' hr
      rw [← ed] at g1 g2
      by_cases z : d ^^^ 2 ^ k = 0
      · obtain ⟨_, g⟩ := g1 z
        rw [g] at hl
        have : n = 0 := by
          have : (1 : Nat) = n + 1 := hl
          omega
        omega
      · have g := g2 z
        have hl2 : (cl q (d ^^^ 2 ^ k) j).length = n := by
          rw [g, List.length_append] at hl
          exact Nat.succ.inj hl
        have ih := part hj n (d ^^^ 2 ^ k) hd' hl2 i h1 (by omega)
        have et : (cl q d j).take i = (cl q (d ^^^ 2 ^ k) j).take i := by
          rw [g, List.take_append_of_le_length (by omega)]
        rw [et]
        exact ih
theorem wl_map (s : Nat) (ks : List Nat) (c : Nat) : (wl s ks).drop c = ((List.range (ks.length + 1)).drop c).map fun i => wf s (ks.take i) := by
  unfold wl
  rw [List.map_drop]
theorem wf_part {q d j s i : Nat} (hj : j < q) (hd : d < 2 ^ q) (h1 : 1 ≤ i) (h2 : i ≤ (cl q d j).length) : cl q (wf s ((cl q d j).take i) ^^^ s) j = (cl q d j).take i := by
  have := (part hj _ d hd rfl i h1 h2).2
  rw [wf_xor, Nat.xor_comm s, Nat.xor_assoc, Nat.xor_self, Nat.xor_zero]
  exact this
/-- a hand on two ways is come to by one part -/
theorem meet {q j s d1 d2 i i' : Nat} (hj : j < q) (h1 : d1 < 2 ^ q) (h2 : d2 < 2 ^ q) (hi : i ≤ (cl q d1 j).length) (hi' : i' ≤ (cl q d2 j).length) (e : wf s ((cl q d1 j).take i) = wf s ((cl q d2 j).take i')) (hs : wf s ((cl q d1 j).take i) ≠ s) :
    i = i' ∧ (cl q d1 j).take i = (cl q d2 j).take i' := by
  have p1 : 1 ≤ i := by
    rcases Nat.eq_zero_or_pos i with z | z
    · rw [z] at hs
      exact absurd rfl hs
    · exact z
  have p2 : 1 ≤ i' := by
    rcases Nat.eq_zero_or_pos i' with z | z
    · rw [e, z] at hs
      exact absurd rfl hs
    · exact z
  have t1 := wf_part (s := s) hj h1 p1 hi
  have t2 := wf_part (s := s) hj h2 p2 hi'
  rw [e] at t1
  have t : (cl q d1 j).take i = (cl q d2 j).take i' := t1.symm.trans t2
  have l := congrArg List.length t
  rw [List.length_take, List.length_take] at l
  exact ⟨by omega, t⟩
theorem ends_one {q j s d c : Nat} (hj : j < q) (hd : d < 2 ^ q) : (((wl s (cl q d j)).drop c).filter fun x => !decide (x = s)).Nodup := by
  rw [wl_map, List.filter_map]
  unfold List.Nodup
  rw [List.pairwise_map]
  have hp : (((List.range ((cl q d j).length + 1)).drop c).filter ((fun x => !decide (x = s)) ∘ fun i => wf s ((cl q d j).take i))).Pairwise (· < ·) := List.Pairwise.filter _ (List.Pairwise.drop List.pairwise_lt_range)
  refine hp.imp_of_mem fun {a b} ha hb hab e => ?_
  obtain ⟨ha1, ha2⟩ := List.mem_filter.mp ha
  obtain ⟨hb1, _⟩ := List.mem_filter.mp hb
  have ha1 := List.mem_range.mp (List.mem_of_mem_drop ha1)
  have hb1 := List.mem_range.mp (List.mem_of_mem_drop hb1)
  have hne : wf s ((cl q d j).take a) ≠ s := by simpa using ha2
  have := (meet hj hd hd (by omega) (by omega) e hne).1
  omega
theorem ends_two {q j s d1 d2 c : Nat} (hj : j < q) (h1 : d1 < 2 ^ q) (h2 : d2 < 2 ^ q) (hm : ¬ (c < (cl q d1 j).length + 1 ∧ c < (cl q d2 j).length + 1 ∧ wf s ((cl q d1 j).take c) = wf s ((cl q d2 j).take c))) :
    (((wl s (cl q d1 j)).drop c ++ (wl s (cl q d2 j)).drop c).filter fun x => !decide (x = s)).Nodup := by
  rw [List.filter_append]
  refine List.nodup_append.mpr ⟨ends_one hj h1, ends_one hj h2, fun x hx y hy e => ?_⟩
  subst e
  obtain ⟨hx1, hx2⟩ := List.mem_filter.mp hx
  obtain ⟨hy1, _⟩ := List.mem_filter.mp hy
  have hne : x ≠ s := by simpa using hx2
  rw [wl_map] at hx1 hy1
  obtain ⟨i, hi, ei⟩ := List.mem_map.mp hx1
  obtain ⟨i', hi', ei'⟩ := List.mem_map.mp hy1
  have hir := List.mem_range.mp (List.mem_of_mem_drop hi)
  have hir' := List.mem_range.mp (List.mem_of_mem_drop hi')
  have hci : c ≤ i := by
    obtain ⟨m, hm1, e⟩ := List.mem_drop_iff_getElem.mp hi
    rw [List.getElem_range] at e
    omega
  obtain ⟨e1, e2⟩ := meet hj h1 h2 (by omega) (by omega) (ei.trans ei'.symm) (by rw [ei]; exact hne)
  refine hm ⟨by omega, by omega, ?_⟩
  have t : (cl q d1 j).take c = (cl q d2 j).take c := by
    have := congrArg (List.take c) e2
    rw [List.take_take, List.take_take, Nat.min_eq_left hci, Nat.min_eq_left (by omega)] at this
    exact this
  rw [t]
theorem wl_take {s : Nat} {ks : List Nat} {i : Nat} (h : i ≤ ks.length) : (wl s ks).take (i + 1) = wl s (ks.take i) := by
  unfold wl
  rw [← List.map_take, List.take_range, List.length_take, Nat.min_eq_left h, Nat.min_eq_left (by omega)]
  refine List.map_congr_left fun m hm => ?_
  have := List.mem_range.mp hm
  rw [List.take_take, Nat.min_eq_left (by omega)]
theorem wl_init {s : Nat} {ks : List Nat} (h : ks ≠ []) : (wl s ks).dropLast = wl s ks.dropLast := by
  have hl : 1 ≤ ks.length := List.length_pos_iff.mpr h
  rw [List.dropLast_eq_take, wl_len, List.dropLast_eq_take]
  have e : ks.length + 1 - 1 = (ks.length - 1) + 1 := by omega
  rw [e, wl_take (by omega)]
end Bf
namespace Bf
open PySem PySem.Spec PyProof.Rows L2
/-! ### all hands by hearers (for k11) -/
def tl (q j s x : Nat) : Nat := x ^^^ 2 ^ ((cl q (x ^^^ s) j).getLast (cl_ne _ _ _))
theorem hears_tl {q j s h x : Nat} (hj : j < q) (hh : h < 2 ^ q) : (∃ k, k < q ∧ x = h ^^^ 2 ^ k ∧ Hr q (h ^^^ s) j k) ↔ x < 2 ^ q ∧ tl q j s x = h := by
  constructor
  · rintro ⟨k, hk, rfl, hr⟩
    refine ⟨Nat.xor_lt_two_pow hh (Nat.pow_lt_pow_right (by decide) hk), ?_⟩
    have e1 : h ^^^ 2 ^ k ^^^ s = h ^^^ s ^^^ 2 ^ k := by rw [Nat.xor_assoc, Nat.xor_comm (2 ^ k) s, ← Nat.xor_assoc]
    have e2 : (cl q (h ^^^ 2 ^ k ^^^ s) j).getLast (cl_ne _ _ _) = k := by
      have h1 : (cl q (h ^^^ 2 ^ k ^^^ s) j).getLast? = some k := by rw [e1]; exact hr
      rw [List.getLast?_eq_getLast (cl_ne _ _ _)] at h1
      exact Option.some.inj h1
    unfold tl
    rw [e2, Nat.xor_assoc, Nat.xor_self, Nat.xor_zero]
  · rintro ⟨hx, rfl⟩
    have hk : (cl q (x ^^^ s) j).getLast (cl_ne _ _ _) < q := cl_lt hj (List.getLast_mem _)
    generalize hk0 : (cl q (x ^^^ s) j).getLast (cl_ne _ _ _) = k at hk
    have et : tl q j s x = x ^^^ 2 ^ k := by
      unfold tl
      rw [hk0]
    refine ⟨k, hk, by rw [et, Nat.xor_assoc, Nat.xor_self, Nat.xor_zero], ?_⟩
    unfold Hr
    have e1 : tl q j s x ^^^ s ^^^ 2 ^ k = x ^^^ s := by
      rw [et, Nat.xor_assoc x, Nat.xor_comm (2 ^ k) s, ← Nat.xor_assoc x, Nat.xor_assoc (x ^^^ s), Nat.xor_self, Nat.xor_zero]
    rw [e1, List.getLast?_eq_getLast (cl_ne _ _ _), hk0]
theorem reach {q j s : Nat} (hj : j < q) (hs : s < 2 ^ q) {P : Nat → Prop} (h0 : P s) (hP : ∀ h x, P h → x < 2 ^ q → tl q j s x = h → x ≠ s → P x) : ∀ (n x : Nat), x < 2 ^ q → (cl q (x ^^^ s) j).length ≤ n → x ≠ s → P x
  | 0, x, hx, hl, _ => absurd (List.length_pos_iff.mpr (cl_ne q (x ^^^ s) j)) (by omega)
  | n + 1, x, hx, hl, hne => by
    have hd : x ^^^ s < 2 ^ q := Nat.xor_lt_two_pow hx hs
    obtain ⟨k, hk, hlast, hr, hd', ed⟩ := back hj hd
    have et : tl q j s x = x ^^^ 2 ^ k := by
      rw [List.getLast?_eq_getLast (cl_ne _ _ _)] at hlast
      unfold tl
      rw [Option.some.inj hlast]
    have e1 : x ^^^ 2 ^ k ^^^ s = x ^^^ s ^^^ 2 ^ k := by rw [Nat.xor_assoc, Nat.xor_comm (2 ^ k) s, ← Nat.xor_assoc]
    refine hP (tl q j s x) x ?_ hx rfl hne
    rw [et]
    by_cases z : x ^^^ 2 ^ k = s
    · rw [z]
      exact h0
    · have z2 : x ^^^ s ^^^ 2 ^ k ≠ 0 := fun y => z (by
        rw [← e1] at y
        have := congrArg (· ^^^ s) y
        simpa [Nat.xor_assoc] using this)
      have g := (grow hj hk hd' hr).2 z2
      rw [← ed] at g
      refine reach hj hs h0 hP n (x ^^^ 2 ^ k) (Nat.xor_lt_two_pow hx (Nat.pow_lt_pow_right (by decide) hk)) ?_ z
      rw [e1]
      rw [g, List.length_append] at hl
      have : (cl q (x ^^^ s ^^^ 2 ^ k) j).length + 1 ≤ n + 1 := hl
      omega
theorem tl_root {q j s : Nat} (hj : j < q) : tl q j s s = s ^^^ 2 ^ j := by
  unfold tl
  have e : (cl q (s ^^^ s) j).getLast? = some j := by
    rw [Nat.xor_self]
    exact cl_last_out hj (Nat.zero_testBit j)
  rw [List.getLast?_eq_getLast (cl_ne _ _ _)] at e
  rw [Option.some.inj e]
end Bf
namespace Bf
open PySem PySem.Spec PyProof.Rows L2
/-! ### delays counted (for k11) -/
def dlF (q d j : Nat) : Nat := if d.testBit j = true then (((List.range q).filter fun i => d.testBit ((j + i) % q)).getLast?).getD 0 else q
theorem dlF_is {q d j r : Nat} (h1 : d.testBit j = true → ∃ l, (rb q d j).getLast? = some l ∧ ar q j l = (r : Int)) (h2 : d.testBit j = false → r = q) : r = dlF q d j := by
  unfold dlF
  cases b : d.testBit j with
  | false =>
    rw [if_neg (by decide)]
    exact h2 b
  | true =>
    rw [if_pos rfl]
    obtain ⟨l, hl, el⟩ := h1 b
    have e : rb q d j = ((List.range q).filter fun i => d.testBit ((j + i) % q)).map fun i => (j + i) % q := by
      unfold rb
      rw [List.filter_map]
      rfl
    rw [e, List.getLast?_map] at hl
    cases z : ((List.range q).filter fun i => d.testBit ((j + i) % q)).getLast? with
    | none => rw [z] at hl; cases hl
    | some i =>
      rw [z] at hl
      have e2 : (j + i) % q = l := Option.some.inj hl
      have hi : i < q := List.mem_range.mp (List.mem_filter.mp (List.mem_of_getLast? z)).1
      rw [← e2, ar_at j hi] at el
      show r = i
      omega
def due (q t : Nat) : Nat := if t = 0 then 1 else if t < q then 2 ^ (t - 1) else 2 ^ (q - 1)
theorem counts : ∀ q, q < 6 → ∀ j, j < q → ∀ t, t ≤ q → ((List.range (2 ^ q)).map fun d => dlF q d j).count t = due q t := by decide +kernel
theorem xor_perm {q s : Nat} (hs : s < 2 ^ q) : ((List.range (2 ^ q)).map (· ^^^ s)).Perm (List.range (2 ^ q)) := by
  refine (List.perm_ext_iff_of_nodup ?_ List.nodup_range).mpr fun x => ?_
  · unfold List.Nodup
    rw [List.pairwise_map]
    exact (List.pairwise_lt_range).imp fun {a b} hab e => by
      have := congrArg (· ^^^ s) e
      have e2 : a = b := by simpa [Nat.xor_assoc] using this
      omega
  · rw [List.mem_map, List.mem_range]
    constructor
    · rintro ⟨y, hy, rfl⟩
      exact Nat.xor_lt_two_pow (List.mem_range.mp hy) hs
    · exact fun hx => ⟨x ^^^ s, List.mem_range.mpr (Nat.xor_lt_two_pow hx hs), by rw [Nat.xor_assoc, Nat.xor_self, Nat.xor_zero]⟩
theorem counts_at {q j s t : Nat} (hq : q < 6) (hj : j < q) (hs : s < 2 ^ q) (ht : t ≤ q) : ((List.range (2 ^ q)).map fun h => dlF q (h ^^^ s) j).count t = due q t := by
  have p := (xor_perm hs).map fun d => dlF q d j
  rw [List.map_map] at p
  rw [← counts q hq j hj t ht]
  exact p.count_eq t
end Bf
namespace Bf
open PySem PySem.Spec PyProof.Rows L2 LamX NdefX
/-! ### how many hands have a letter -/
def ctN (q j l : Nat) : Nat := ((List.range (2 ^ q)).filter fun d => decide (d = 0 ∨ dyF q d j < l)).length
def ctL (q j l : Nat) : Nat := ((List.range (2 ^ q)).filter fun d => decide (d = 0 ∨ farF q d j < l)).length
theorem ctN_is : ∀ q, q < 7 → ∀ j, j < q → ∀ l, l < q + 2 → ctN q j l = (if l = 0 then 1 else if l ≤ q then 2 ^ (l - 1) + 1 else 2 ^ q) := by decide +kernel
theorem ctL_is : ∀ q, q < 7 → ∀ j, j < q → ∀ l, l < q + 1 → ctL q j l = 2 ^ l := by decide +kernel
end Bf
namespace Bf
open PySem PySem.Spec PyProof.Rows L2 LamX NdefX
def g5 {α : Type} (us ws : List α) : List α := match us, ws with
  | [a, b, c, d, e], [f] => [a, b, c, d, e, f]
  | _, _ => []
theorem g5_rel {vs zs : List V} {us ws : List Value} (r1 : Vals vs us) (r2 : Vals zs ws) : Vals (g5 vs zs) (g5 us ws) := by
  match r1, r2 with
  | .nil, _ => exact .nil
  | .cons _ .nil, _ => exact .nil
  | .cons _ (.cons _ .nil), _ => exact .nil
  | .cons _ (.cons _ (.cons _ .nil)), _ => exact .nil
  | .cons _ (.cons _ (.cons _ (.cons _ .nil))), _ => exact .nil
  | .cons _ (.cons _ (.cons _ (.cons _ (.cons _ .nil)))), .nil => exact .nil
  | .cons a (.cons b (.cons c (.cons d (.cons e .nil)))), .cons f .nil => exact .cons a (.cons b (.cons c (.cons d (.cons e (.cons f .nil)))))
  | .cons _ (.cons _ (.cons _ (.cons _ (.cons _ .nil)))), .cons _ (.cons _ _) => exact .nil
  | .cons _ (.cons _ (.cons _ (.cons _ (.cons _ (.cons _ _))))), _ => exact .nil
theorem g5_len {us ws : List Value} (h : (g5 us ws).length = 6) : ∃ a b c d e f, us = [a, b, c, d, e] ∧ ws = [f] := by
  match us, ws, h with
  | [a, b, c, d, e], [f], _ => exact ⟨a, b, c, d, e, f, rfl, rfl⟩
  | [], _, h => cases h
  | [_], _, h => cases h
  | [_, _], _, h => cases h
  | [_, _, _], _, h => cases h
  | [_, _, _, _], _, h => cases h
  | [_, _, _, _, _], [], h => cases h
  | [_, _, _, _, _], _ :: _ :: _, h => cases h
  | _ :: _ :: _ :: _ :: _ :: _ :: _, _, h => cases h
theorem kbS5 {x1 x2 x3 x4 x5 : Str} {K : PySem.W.Frag} {x : Str} {st : Stmt} {f : Addr} {fd : FuncData} (F : FunS K x st f fd) (h : ∀ (kV doc pm : Value) (an : Option Addr) (cdv ct a b c d e g : Value), bindArgs (PySem.W.fnOf x x (defArgs st) (defBody st) (defScope st) .none kV doc pm an cdv ct) ⟨[a, b, c, d, e], [(("source" : Str), g)]⟩ = pure ([(x1, a), (x2, b), (x3, c), (x4, d), (x5, e), ("source", g)] : List (Str × Value))) :
    KBinds K fd [x1, x2, x3, x4, x5, "source"] ["source"] g5 g5 := by
  obtain ⟨oc, od, dV, kV, doc, pm, an, cdv, ct, osl, rfl, lk, hcd, hD, hK⟩ := F.ex
  rcases hD with ⟨_, rfl⟩ | ⟨z, _⟩
  · refine ⟨fun s us ws _ hl => ?_, fun r1 r2 => g5_rel r1 r2⟩
    obtain ⟨a, b, c, d, e, g, rfl, rfl⟩ := g5_len hl
    exact .of_eq (h kV doc pm an cdv ct a b c d e g)
  · exact absurd rfl z
theorem in_nv {L : List Nat} {s : Nat} (h : s ∈ L) : inV (.int (s : Int)) (nv L) = true := by
  unfold inV nv
  rw [List.any_map, List.any_eq_true]
  refine ⟨s, h, ?_⟩
  show ((s : Int) == (s : Int)) = true
  exact beq_self_eq_true _
end Bf
namespace Bf
open PySem PySem.Spec PyProof.Rows L2 LamX NdefX
/-! ### the first beat from one on that crosses a bit of the set -/
def cfF (q d t : Nat) : Nat := t + (ar q (t % q) (((rb q d (t % q)).head?).getD 0)).toNat
theorem cf_spec {q d t : Nat} (hq : 0 < q) (hd : d < 2 ^ q) (h0 : d ≠ 0) : ∃ B, (rb q d (t % q)).head? = some B ∧ (cfF q d t : Int) = t + ar q (t % q) B ∧ B < q ∧ d.testBit B = true ∧ cfF q d t % q = B ∧ t ≤ cfF q d t ∧ cfF q d t < t + q ∧ ∀ u, t ≤ u → d.testBit (u % q) = true → cfF q d t ≤ u := by
  have hne : rb q d (t % q) ≠ [] := fun e => by
    obtain ⟨i, hi⟩ := Nat.exists_testBit_of_ne_zero h0
    have : i ∈ rb q d (t % q) := mem_rb.mpr ⟨lt_of_bit hd hi, hi⟩
    rw [e] at this
    exact absurd this List.not_mem_nil
  obtain ⟨B, l, el⟩ : ∃ B l, rb q d (t % q) = B :: l := by
    cases e : rb q d (t % q) with
    | nil => exact absurd e hne
    | cons B l => exact ⟨B, l, rfl⟩
  have hm : B ∈ rb q d (t % q) := by rw [el]; exact List.mem_cons_self
  obtain ⟨hB, bB⟩ := mem_rb.mp hm
  have a0 := ar_nn (q := q) (j := t % q) (x := B) hq
  have a1 := ar_lt (q := q) (j := t % q) (x := B) hq
  have hk : t % q < q := Nat.mod_lt _ hq
  have ec : cfF q d t = t + (ar q (t % q) B).toNat := by
    unfold cfF
    rw [el]
    rfl
  have em : cfF q d t % q = B := by
    have h2 := arc_to hk hB
    rw [← Int.toNat_of_nonneg a0] at h2
    have h3 : (((t % q + (ar q (t % q) B).toNat) % q : Nat) : Int) = (B : Int) := by rw [Int.natCast_emod, Int.natCast_add]; exact h2
    have := Int.ofNat.inj h3
    rw [Nat.mod_add_mod] at this
    rw [ec]
    exact this
  refine ⟨B, by rw [el]; rfl, by omega, hB, bB, em, by omega, by omega, fun u hu bu => ?_⟩
  obtain ⟨e, rfl⟩ := Nat.exists_eq_add_of_le hu
  by_cases he : e < q
  · have h1 : ar q (t % q) ((t + e) % q) = (e : Int) := ar_add he
    have hx : (t + e) % q ∈ rb q d (t % q) := mem_rb.mpr ⟨Nat.mod_lt _ hq, bu⟩
    have hs := rb_sorted q d (t % q)
    rw [el] at hx hs
    rcases List.mem_cons.mp hx with e1 | e1
    · rw [e1] at h1
      omega
    · have := (List.pairwise_cons.mp hs).1 _ e1
      omega
  · omega
/-- which letters are had -/
theorem has_in {q m d i t : Nat} (hq : 0 < q) (hd : d < 2 ^ q) (h0 : d ≠ 0) (hi : i + 1 < m) : snF q m d i < t ↔ i + q < t ∨ i + q = cfF q d t := by
  obtain ⟨B, _, _, hB, bB, em, c1, c2, c3⟩ := cf_spec (t := t) hq hd h0
  have hj : i % q < q := Nat.mod_lt _ hq
  unfold snF
  rw [if_neg (by omega)]
  unfold dyF
  cases b : d.testBit (i % q) with
  | false =>
    rw [if_neg (by decide)]
    constructor
    · exact fun h => .inl h
    · rintro (h | h)
      · exact h
      · exfalso
        rw [← h, Nat.add_mod_right] at em
        rw [em, bB] at b
        cases b
  | true =>
    rw [if_pos rfl]
    obtain ⟨L, _, e3, bL, hL, top⟩ := far_spec (j := i % q) hq hd h0
    have fl := far_lt (q := q) (d := d) (j := i % q) hq
    have eL : (i + farF q d (i % q)) % q = L := by
      have h2 := arc_to hj hL
      rw [e3] at h2
      have : (((i % q + farF q d (i % q)) % q : Nat) : Int) = (L : Int) := by rw [Int.natCast_emod, Int.natCast_add]; exact h2
      have := Int.ofNat.inj this
      rw [Nat.mod_add_mod] at this
      exact this
    constructor
    · intro h
      by_cases hc : i + q < t
      · exact .inl hc
      · refine .inr ?_
        have h1 := c3 (i + q) (by omega) (by rw [Nat.add_mod_right]; exact b)
        refine Classical.byContradiction fun hne => ?_
        obtain ⟨e, he⟩ := Nat.exists_eq_add_of_le (show i ≤ cfF q d t by omega)
        have h2 : ar q (i % q) ((i + e) % q) = (e : Int) := ar_add (by omega)
        rw [← he, em] at h2
        have := top B bB
        omega
    · rintro (h | h)
      · omega
      · refine Classical.byContradiction fun hc => ?_
        have := c3 (i + farF q d (i % q)) (by omega) (by rw [eL]; exact bL)
        omega
theorem has_last {q m d i t : Nat} (hq : 0 < q) (hd : d < 2 ^ q) (h0 : d ≠ 0) (hi : i + 1 = m) : snF q m d i < t ↔ i + q ≤ cfF q d t := by
  obtain ⟨B, _, _, hB, bB, em, c1, c2, c3⟩ := cf_spec (t := t) hq hd h0
  have hj : i % q < q := Nat.mod_lt _ hq
  unfold snF
  rw [if_pos hi]
  obtain ⟨L, _, e3, bL, hL, top⟩ := far_spec (j := i % q) hq hd h0
  have fl := far_lt (q := q) (d := d) (j := i % q) hq
  have eL : (i + farF q d (i % q)) % q = L := by
    have h2 := arc_to hj hL
    rw [e3] at h2
    have : (((i % q + farF q d (i % q)) % q : Nat) : Int) = (L : Int) := by rw [Int.natCast_emod, Int.natCast_add]; exact h2
    have := Int.ofNat.inj this
    rw [Nat.mod_add_mod] at this
    exact this
  constructor
  · intro h
    refine Classical.byContradiction fun hne => ?_
    obtain ⟨e, he⟩ := Nat.exists_eq_add_of_le (show i ≤ cfF q d t by omega)
    have h2 : ar q (i % q) ((i + e) % q) = (e : Int) := ar_add (by omega)
    rw [← he, em] at h2
    have := top B bB
    omega
  · intro h
    refine Classical.byContradiction fun hc => ?_
    have := c3 (i + farF q d (i % q)) (by omega) (by rw [eL]; exact bL)
    omega
def hdF (q m t : Nat) : Nat := min (t - q) (m - 1)
def myF (q m d t : Nat) : Nat := hdF q m t + (if q ≤ cfF q d t then 1 else 0)
/-- the least letter that lacks -/
def flF (q m d t : Nat) : Nat := hdF q m t + (if q ≤ cfF q d t ∧ min (cfF q d t - q) (m - 1) = hdF q m t then 1 else 0)
theorem has_iff {q m d i t : Nat} (hq : 0 < q) (hd : d < 2 ^ q) (h0 : d ≠ 0) (hi : i < m) : snF q m d i < t ↔ i < hdF q m t ∨ (q ≤ cfF q d t ∧ i = min (cfF q d t - q) (m - 1)) := by
  obtain ⟨B, _, _, hB, bB, em, c1, c2, c3⟩ := cf_spec (t := t) hq hd h0
  unfold hdF
  by_cases e : i + 1 = m
  · rw [has_last hq hd h0 e]
    omega
  · rw [has_in hq hd h0 (by omega)]
    omega
theorem my_count {q m d t : Nat} (hq : 0 < q) (hm : 0 < m) (hd : d < 2 ^ q) (h0 : d ≠ 0) : ((List.range m).filter fun i => decide (snF q m d i < t)).length = myF q m d t := by
  obtain ⟨B, _, _, hB, bB, em, c1, c2, c3⟩ := cf_spec (t := t) hq hd h0
  have hE : (List.range m).filter (fun i => decide (snF q m d i < t)) = List.range (hdF q m t) ++ (if q ≤ cfF q d t then [min (cfF q d t - q) (m - 1)] else []) := by
    refine uniq_sorted (key := fun n : Nat => (n : Int)) (List.Pairwise.filter _ (List.pairwise_lt_range.imp fun {a b} h => by omega)) ?_ fun x => ?_
    · refine List.pairwise_append.mpr ⟨List.pairwise_lt_range.imp fun {a b} h => by omega, ?_, fun a ha b hb => ?_⟩
      · split
        · exact List.pairwise_singleton _ _
        · exact List.Pairwise.nil
      · split at hb
        · have := List.mem_range.mp ha
          rw [List.mem_singleton.mp hb]
          unfold hdF at this
          omega
        · exact absurd hb List.not_mem_nil
    · rw [List.mem_filter, List.mem_range, List.mem_append, List.mem_range]
      have hhd : hdF q m t ≤ m - 1 := by unfold hdF; omega
      constructor
      · rintro ⟨h1, h2⟩
        rcases (has_iff hq hd h0 h1).mp (of_decide_eq_true h2) with h | ⟨h3, h4⟩
        · exact .inl h
        · refine .inr ?_
          rw [if_pos h3]
          exact List.mem_singleton.mpr h4
      · rintro (h | h)
        · exact ⟨by omega, decide_eq_true ((has_iff hq hd h0 (by omega)).mpr (.inl h))⟩
        · split at h
          · rename_i h3
            have h4 := List.mem_singleton.mp h
            exact ⟨by omega, decide_eq_true ((has_iff hq hd h0 (by omega)).mpr (.inr ⟨h3, h4⟩))⟩
          · exact absurd h List.not_mem_nil
  rw [hE, List.length_append, List.length_range]
  unfold myF
  split <;> rfl
theorem fl_lacks {q m d t : Nat} (hq : 0 < q) (hm : 0 < m) (hd : d < 2 ^ q) (h0 : d ≠ 0) : (flF q m d t < m → ¬ snF q m d (flF q m d t) < t) ∧ (∀ i, i < flF q m d t → i < m → snF q m d i < t) ∧ flF q m d t ≤ m := by
  obtain ⟨B, _, _, hB, bB, em, c1, c2, c3⟩ := cf_spec (t := t) hq hd h0
  have hhd : hdF q m t ≤ m - 1 := by unfold hdF; omega
  refine ⟨fun hlt => ?_, fun i hi hm2 => ?_, ?_⟩
  · rw [has_iff hq hd h0 hlt]
    unfold flF
    split
    · rename_i h
      omega
    · rename_i h
      omega
  · rw [has_iff hq hd h0 hm2]
    unfold flF at hi
    split at hi
    · rename_i h
      omega
    · omega
  · unfold flF
    split <;> omega
end Bf
namespace Bf
/-! ### letters of each tree, counted -/
def ctF (q j : Nat) (u : Int) : Nat := ((u - (j : Int)) / (q : Int) + 1).toNat
theorem div_step {q : Nat} (hq : 0 < q) (x : Int) : x / (q : Int) = (x - 1) / (q : Int) + (if x % (q : Int) = 0 then 1 else 0) := by
  have h1 := Int.mul_ediv_add_emod x q
  have h2 := Int.emod_nonneg x (show (q : Int) ≠ 0 by omega)
  have h3 := Int.emod_lt_of_pos x (show (0 : Int) < q by omega)
  by_cases c : x % (q : Int) = 0
  · rw [if_pos c]
    have e : x - 1 = (q : Int) * (x / (q : Int) - 1) + ((q : Int) - 1) := by
      rw [Int.mul_sub, Int.mul_one]
      omega
    have := (Int.ediv_emod_unique (a := x - 1) (b := (q : Int)) (r := (q : Int) - 1) (q := x / (q : Int) - 1) (by omega)).mpr ⟨by omega, by omega, by omega⟩
    omega
  · rw [if_neg c]
    have := (Int.ediv_emod_unique (a := x - 1) (b := (q : Int)) (r := x % (q : Int) - 1) (q := x / (q : Int)) (by omega)).mpr ⟨by omega, by omega, by omega⟩
    omega
theorem ct_zero {q j : Nat} {u : Int} (hq : 0 < q) (h : u < (j : Int)) : ctF q j u = 0 := by
  unfold ctF
  have : (u - (j : Int)) / (q : Int) < 0 := Int.ediv_neg_of_neg_of_pos (by omega) (by omega)
  omega
theorem ct_step {q j n : Nat} (hq : 0 < q) (hj : j < q) : ctF q j (n : Int) = ctF q j ((n : Int) - 1) + (if n % q = j then 1 else 0) := by
  by_cases c : n < j
  · rw [ct_zero hq (by omega), ct_zero hq (by omega), if_neg]
    rw [Nat.mod_eq_of_lt (by omega)]
    omega
  · unfold ctF
    rw [div_step hq ((n : Int) - j), show (n : Int) - 1 - (j : Int) = (n : Int) - j - 1 by omega]
    have h0 : -1 ≤ ((n : Int) - j - 1) / (q : Int) := by
      have : (-1 : Int) / (q : Int) ≤ ((n : Int) - j - 1) / (q : Int) := Int.ediv_le_ediv (by omega) (by omega)
      have e : (-1 : Int) / (q : Int) = -1 := by
        have := (Int.ediv_emod_unique (a := (-1 : Int)) (b := (q : Int)) (r := (q : Int) - 1) (q := -1) (by omega)).mpr ⟨by omega, by omega, by omega⟩
        exact this.1
      omega
    have e1 : ((n : Int) - j) % (q : Int) = 0 ↔ n % q = j := by
      have e2 : ((n : Int) - j) = ((n - j : Nat) : Int) := by omega
      rw [e2, ← Int.natCast_emod]
      constructor
      · intro h
        have h : (n - j) % q = 0 := by omega
        have e3 : n = j + (n - j) := by omega
        rw [e3, Nat.add_mod, h, Nat.add_zero, Nat.mod_mod, Nat.mod_eq_of_lt hj]
      · intro h
        have h1 := Nat.div_add_mod n q
        have e3 : n - j = q * (n / q) := by omega
        rw [e3, Nat.mul_mod_right]
        rfl
    by_cases c2 : n % q = j
    · rw [if_pos c2, if_pos (e1.mpr c2)]
      omega
    · rw [if_neg c2, if_neg (fun z => c2 (e1.mp z))]
      omega
/-- of tree j, of the letters below n -/
def caF (q d t j n : Nat) : Nat := ctF q j (min ((n : Int) - 1) ((t : Int) - 1 - (dyF q d j : Nat)))
theorem ca_step {q d t j n : Nat} (hq : 0 < q) (hj : j < q) : caF q d t j (n + 1) = caF q d t j n + (if n % q = j ∧ n + dyF q d j < t then 1 else 0) := by
  unfold caF
  by_cases c : n + dyF q d j < t
  · rw [show min (((n + 1 : Nat) : Int) - 1) ((t : Int) - 1 - (dyF q d j : Nat)) = (n : Int) by omega, show min ((n : Int) - 1) ((t : Int) - 1 - (dyF q d j : Nat)) = (n : Int) - 1 by omega, ct_step hq hj]
    by_cases c2 : n % q = j
    · rw [if_pos c2, if_pos ⟨c2, c⟩]
    · rw [if_neg c2, if_neg (fun z => c2 z.1)]
  · rw [if_neg (fun z => c z.2), show min (((n + 1 : Nat) : Int) - 1) ((t : Int) - 1 - (dyF q d j : Nat)) = (t : Int) - 1 - (dyF q d j : Nat) by omega, show min ((n : Int) - 1) ((t : Int) - 1 - (dyF q d j : Nat)) = (t : Int) - 1 - (dyF q d j : Nat) by omega]
    rfl
/-- of the first r trees -/
def suF (q d t n : Nat) : Nat → Nat
  | 0 => 0
  | r + 1 => suF q d t n r + caF q d t r n
theorem su_step {q d t n : Nat} (hq : 0 < q) : ∀ r, r ≤ q → suF q d t (n + 1) r = suF q d t n r + (if n % q < r ∧ n + dyF q d (n % q) < t then 1 else 0)
  | 0, _ => by
    rw [if_neg (fun z => absurd z.1 (Nat.not_lt_zero _))]
    rfl
  | r + 1, h => by
    show suF q d t (n + 1) r + caF q d t r (n + 1) = suF q d t n r + caF q d t r n + _
    rw [su_step hq r (by omega), ca_step hq (by omega)]
    by_cases c : n % q = r
    · subst c
      by_cases c2 : n + dyF q d (n % q) < t
      · rw [if_neg (by omega), if_pos ⟨rfl, c2⟩, if_pos ⟨by omega, c2⟩]
        omega
      · rw [if_neg (fun z => c2 z.2), if_neg (fun z => c2 z.2), if_neg (fun z => c2 z.2)]
        omega
    · rw [if_neg (fun (z : n % q = r ∧ _) => c z.1)]
      by_cases c2 : n % q < r ∧ n + dyF q d (n % q) < t
      · rw [if_pos c2, if_pos ⟨by omega, c2.2⟩]
        omega
      · rw [if_neg c2, if_neg (fun z => c2 ⟨by omega, z.2⟩)]
        omega
theorem su_zero {q d t : Nat} (hq : 0 < q) : ∀ r, suF q d t 0 r = 0
  | 0 => rfl
  | r + 1 => by
    show suF q d t 0 r + caF q d t r 0 = 0
    rw [su_zero hq r]
    unfold caF
    rw [ct_zero hq (by omega)]
theorem su_count {q m d t : Nat} (hq : 0 < q) : ∀ n, n + 1 ≤ m → suF q d t n q = ((List.range n).filter fun i => decide (snF q m d i < t)).length
  | 0, _ => su_zero hq q
  | n + 1, h => by
    rw [su_step hq q (Nat.le_refl q), su_count (m := m) hq n (by omega), List.range_succ, List.filter_append, List.length_append]
    have hs : snF q m d n = n + dyF q d (n % q) := by
      unfold snF
      rw [if_neg (by omega)]
    have hn := Nat.mod_lt n hq
    by_cases c : snF q m d n < t
    · rw [if_pos ⟨hn, by omega⟩]
      simp [c]
    · rw [if_neg (fun z => c (by omega))]
      simp [c]
theorem su_my {q m d t : Nat} (hq : 0 < q) (hm : 0 < m) (hd : d < 2 ^ q) (h0 : d ≠ 0) : suF q d t (m - 1) q + (if snF q m d (m - 1) < t then 1 else 0) = myF q m d t := by
  rw [← my_count hq hm hd h0, su_count (m := m) hq (m - 1) (by omega)]
  obtain ⟨n, rfl⟩ : ∃ n, m = n + 1 := ⟨m - 1, by omega⟩
  rw [show n + 1 - 1 = n by omega, List.range_succ, List.filter_append, List.length_append]
  by_cases c : snF q (n + 1) d n < t
  · simp [c]
  · simp [c]
theorem ca_int {q d t j m : Nat} (hm : 0 < m) : (if ((if ((t : Int) - 1 - (dyF q d j : Nat)) < ((m : Int) - 2) then ((t : Int) - 1 - (dyF q d j : Nat)) else ((m : Int) - 2)) - (j : Int)) / (q : Int) + 1 > 0 then ((if ((t : Int) - 1 - (dyF q d j : Nat)) < ((m : Int) - 2) then ((t : Int) - 1 - (dyF q d j : Nat)) else ((m : Int) - 2)) - (j : Int)) / (q : Int) + 1 else 0) = ((caF q d t j (m - 1) : Nat) : Int) := by
  have e : (if ((t : Int) - 1 - (dyF q d j : Nat)) < ((m : Int) - 2) then ((t : Int) - 1 - (dyF q d j : Nat)) else ((m : Int) - 2)) = min (((m - 1 : Nat) : Int) - 1) ((t : Int) - 1 - (dyF q d j : Nat)) := by
    split <;> omega
  rw [e]
  unfold caF ctF
  generalize (min (((m - 1 : Nat) : Int) - 1) ((t : Int) - 1 - (dyF q d j : Nat)) - (j : Int)) / (q : Int) = z
  split <;> omega
theorem my_le {q m d t : Nat} (hm : 0 < m) : myF q m d t ≤ m := by
  unfold myF hdF
  split <;> omega
end Bf
namespace Bf
open PySem PySem.Spec PyProof.Rows L2 LamX NdefX
/-! ### all by names, in any order -/
def gP {α : Type} (π : List Nat) (us ws : List α) : List α := match us with
  | [] => if ws.length = π.length then π.filterMap (fun i => ws[i]?) else []
  | _ :: _ => []
theorem vals_get {zs : List V} {ws : List Value} (r : Vals zs ws) : ∀ i : Nat, (zs[i]? = none ∧ ws[i]? = none) ∨ ∃ z w, zs[i]? = some z ∧ ws[i]? = some w ∧ RelV z w := by
  induction r with
  | nil => exact fun i => .inl ⟨by simp, by simp⟩
  | cons a r ih =>
    intro i
    cases i with
    | zero => exact .inr ⟨_, _, rfl, rfl, a⟩
    | succ i => simpa using ih i
theorem gP_pick {zs : List V} {ws : List Value} (r : Vals zs ws) : ∀ π : List Nat, Vals (π.filterMap (fun i => zs[i]?)) (π.filterMap (fun i => ws[i]?))
  | [] => .nil
  | i :: π => by
    have ih := gP_pick r π
    rcases vals_get r i with ⟨e1, e2⟩ | ⟨z, w, e1, e2, rz⟩
    · rw [List.filterMap_cons_none e1, List.filterMap_cons_none e2]
      exact ih
    · rw [List.filterMap_cons_some e1, List.filterMap_cons_some e2]
      exact .cons rz ih
theorem gP_rel {π : List Nat} {vs zs : List V} {us ws : List Value} (r1 : Vals vs us) (r2 : Vals zs ws) : Vals (gP π vs zs) (gP π us ws) := by
  cases r1 with
  | nil =>
    show Vals (if zs.length = π.length then _ else []) (if ws.length = π.length then _ else [])
    rw [r2.length]
    by_cases e : ws.length = π.length
    · rw [if_pos e, if_pos e]
      exact gP_pick r2 π
    · rw [if_neg e, if_neg e]
      exact .nil
  | cons _ _ => exact .nil
theorem gP_len {π : List Nat} {us ws : List Value} {n : Nat} (hn : 0 < n) (h : (gP π us ws).length = n) : us = [] ∧ ws.length = π.length := by
  cases us with
  | nil =>
    refine ⟨rfl, Classical.byContradiction fun e => ?_⟩
    have : (if ws.length = π.length then π.filterMap (fun i => ws[i]?) else []).length = n := h
    rw [if_neg e] at this
    have : 0 = n := this
    omega
  | cons _ _ =>
    have : 0 = n := h
    omega
theorem kbP {π : List Nat} {ps ks : List Str} {K : PySem.W.Frag} {x : Str} {st : Stmt} {f : Addr} {fd : FuncData} (F : FunS K x st f fd) (hp : 0 < ps.length)
    (h : ∀ (kV doc pm : Value) (an : Option Addr) (cdv ct : Value) (ws : List Value), ws.length = π.length → bindArgs (PySem.W.fnOf x x (defArgs st) (defBody st) (defScope st) .none kV doc pm an cdv ct) ⟨[], ks.zip ws⟩ = pure (ps.zip (gP π [] ws))) :
    KBinds K fd ps ks (gP π) (gP π) := by
  obtain ⟨oc, od, dV, kV, doc, pm, an, cdv, ct, osl, rfl, lk, hcd, hD, hK⟩ := F.ex
  rcases hD with ⟨_, rfl⟩ | ⟨z, _⟩
  · refine ⟨fun s us ws _ hl => ?_, fun r1 r2 => gP_rel r1 r2⟩
    obtain ⟨rfl, hw⟩ := gP_len hp hl
    exact .of_eq (h kV doc pm an cdv ct ws hw)
  · exact absurd rfl z
theorem kbQ {π : List Nat} {ps ks : List Str} {K : PySem.W.Frag} {x : Str} {st : Stmt} {f : Addr} {fd : FuncData} (F : Fun K x x st f fd) (hp : 0 < ps.length)
    (h : ∀ (kV doc pm : Value) (an : Option Addr) (cdv ct : Value) (ws : List Value), ws.length = π.length → bindArgs (PySem.W.fnOf x x (defArgs st) (defBody st) (defScope st) .none kV doc pm an cdv ct) ⟨[], ks.zip ws⟩ = pure (ps.zip (gP π [] ws))) :
    KBinds K fd ps ks (gP π) (gP π) := by
  obtain ⟨oc, od, kV, doc, pm, an, cdv, ct, osl, rfl, lk, hcd⟩ := F.ex
  refine ⟨fun s us ws _ hl => ?_, fun r1 r2 => gP_rel r1 r2⟩
  obtain ⟨rfl, hw⟩ := gP_len hp hl
  exact .of_eq (h kV doc pm an cdv ct ws hw)
/-! ### data of some kinds in a list -/
structure Okd (d : PyData) : Prop where
  sh : d.showable = true
  di : d.hasDict = false
  de : d.depth ≤ 2
  lv : d.leavesShort 64 = true
  we : d.weight ≤ 200
theorem okd_none : Okd .none := ⟨rfl, rfl, by decide, rfl, by decide⟩
theorem okd_bool (b : Bool) : Okd (.bool b) := by cases b <;> exact ⟨rfl, rfl, by decide, rfl, by decide⟩
theorem okd_tup {ns : List Nat} (h : ∀ n ∈ ns, n < 2 ^ 61) (hl : ns.length ≤ 3) : Okd (.tuple (nd' ns)) := by
  refine ⟨nd_show _ h, nd_dict _, nd_dep _, nd_leaves _ h, ?_⟩
  have h2 : PyData.weight (.tuple (nd' ns)) ≤ 63 * ns.length := nd_weight ns h
  omega
theorem okd_int {n : Nat} (h : n < 2 ^ 61) : Okd (.int (n : Int)) := by
  have h1 : ∀ x ∈ [n], x < 2 ^ 61 := fun x hx => by rw [List.mem_singleton.mp hx]; exact h
  have a1 : (PyData.showable (.int (n : Int)) && PyData.showableAll []) = true := nd_show [n] h1
  have a2 : (PyData.leavesShort 64 (.int (n : Int)) && PyData.leavesShortAll 64 []) = true := nd_leaves [n] h1
  have a3 : PyData.weight (.int (n : Int)) + 1 + PyData.weightAll [] ≤ 63 * 1 := nd_weight [n] h1
  exact ⟨(Bool.and_eq_true _ _ ▸ a1).1, rfl, Nat.le_trans (by show PyData.depth (.int _) ≤ 1; simp [PyData.depth]) (by decide), (Bool.and_eq_true _ _ ▸ a2).1, by omega⟩
theorem okd_all : ∀ ds : List PyData, (∀ d ∈ ds, Okd d) → PyData.showableAll ds = true ∧ PyData.hasDictAll ds = false ∧ PyData.depthAll ds ≤ 2 ∧ PyData.leavesShortAll 64 ds = true ∧ PyData.weightAll ds ≤ 201 * ds.length
  | [], _ => ⟨rfl, rfl, by simp [PyData.depthAll], rfl, Nat.le_refl _⟩
  | d :: ds, h => by
    obtain ⟨a1, a2, a3, a4, a5⟩ := okd_all ds fun x hx => h x (List.mem_cons_of_mem _ hx)
    have o := h d List.mem_cons_self
    refine ⟨?_, ?_, ?_, ?_, ?_⟩
    · show (PyData.showable d && PyData.showableAll ds) = true
      rw [o.sh, a1]
      rfl
    · show (PyData.hasDict d || PyData.hasDictAll ds) = false
      rw [o.di, a2]
      rfl
    · show max (PyData.depth d) (PyData.depthAll ds) ≤ 2
      have := o.de
      omega
    · show (PyData.leavesShort 64 d && PyData.leavesShortAll 64 ds) = true
      rw [o.lv, a4]
      rfl
    · show PyData.weight d + 1 + PyData.weightAll ds ≤ 201 * (ds.length + 1)
      have := o.we
      omega
theorem okd_list {ds : List PyData} (h : ∀ d ∈ ds, Okd d) (hl : ds.length ≤ 100) : (PyData.list ds).showable = true ∧ (PyData.list ds).hasDict = false ∧ (PyData.list ds).depth < 60 ∧ (PyData.list ds).shown.length ≤ sizeLine := by
  obtain ⟨a1, a2, a3, a4, a5⟩ := okd_all ds h
  refine ⟨a1, a2, ?_, ?_⟩
  · show PyData.depthAll ds + 1 < 60
    omega
  · have h1 := PyData.shown_le 64 (by decide) (.list ds) a4
    have h2 : PyData.weight (.list ds) ≤ 201 * ds.length := a5
    rw [sizeLine_eq]
    have h3 : (64 + 2) * PyData.weight (.list ds) ≤ 66 * (201 * 100) := Nat.mul_le_mul (by decide) (by omega)
    omega
/-- what stands for itself -/
def vD : V → PyData
  | .non => .none
  | .bl b => .bool b
  | .int i => .int i
  | _ => .none
def Imm (v : V) : Prop := v = .non ∨ (∃ b, v = .bl b) ∨ ∃ n : Nat, n < 2 ^ 61 ∧ v = .int (n : Int)
theorem Imm.dp {K : PySem.W.Frag} {H : Hp} {v : V} (h : Imm v) : Dp K H v (vD v) := by
  rcases h with rfl | ⟨b, rfl⟩ | ⟨n, _, rfl⟩
  · exact .non
  · exact .bl b
  · exact .int _
theorem Imm.ok {v : V} (h : Imm v) : Okd (vD v) := by
  rcases h with rfl | ⟨b, rfl⟩ | ⟨n, hn, rfl⟩
  · exact okd_none
  · exact okd_bool b
  · exact okd_int hn
theorem imm_int {n : Nat} (h : n < 2 ^ 61) : Imm (.int (n : Int)) := .inr (.inr ⟨n, h, rfl⟩)
theorem imm_bl (b : Bool) : Imm (.bl b) := .inr (.inl ⟨b, rfl⟩)
theorem imm_if {c : Prop} [Decidable c] {a b : V} (ha : Imm a) (hb : Imm b) : Imm (if c then a else b) := by
  split
  · exact ha
  · exact hb
/-- a pair or nothing -/
def PrO (H : Hp) (v : V) (o : Option (Nat × Nat)) : Prop := match o with
  | none => v = .non
  | some ab => ∃ p, v = .ref p ∧ H p = some (.tup (nv [ab.1, ab.2]))
def oD : Option (Nat × Nat) → PyData
  | none => .none
  | some ab => .tuple (nd' [ab.1, ab.2])
theorem PrO.ext {H H' : Hp} {v : V} {o : Option (Nat × Nat)} (h : PrO H v o) (x : ExtN H H') : PrO H' v o := by
  cases o with
  | none => exact h
  | some ab =>
    obtain ⟨p, e, hp⟩ := h
    exact ⟨p, e, x _ _ hp (fun ps z => nomatch z)⟩
theorem PrO.upd' {H : Hp} {L : Addr} {l l' : List V} {v : V} {o : Option (Nat × Nat)} (h : PrO H v o) (eL : H L = some (.lst l)) : PrO (upd H L (.lst l')) v o := by
  cases o with
  | none => exact h
  | some ab =>
    obtain ⟨p, e, hp⟩ := h
    refine ⟨p, e, ?_⟩
    rw [upd_ne (fun z => by rw [z, eL] at hp; cases hp)]
    exact hp
theorem PrO.dp {K : PySem.W.Frag} {H : Hp} {v : V} {o : Option (Nat × Nat)} (h : PrO H v o) : Dp K H v (oD o) := by
  cases o with
  | none =>
    have h : v = .non := h
    subst h
    exact .non
  | some ab =>
    obtain ⟨p, rfl, hp⟩ := h
    exact .tup (.inl (.inl hp)) (dp_nv _)
theorem oD_ok {o : Option (Nat × Nat)} (h : ∀ ab, o = some ab → ab.1 < 2 ^ 61 ∧ ab.2 < 2 ^ 61) : Okd (oD o) := by
  cases o with
  | none => exact okd_none
  | some ab =>
    obtain ⟨h1, h2⟩ := h ab rfl
    refine okd_tup (fun n hn => ?_) (by show 2 ≤ 3; decide)
    rcases List.mem_cons.mp hn with rfl | hn
    · exact h1
    · rw [List.mem_singleton.mp hn]
      exact h2
def hdO (q m s h t : Nat) : Option (Nat × Nat) := (duF q m (h ^^^ s) t).map fun l => (h ^^^ 2 ^ (t % q), l)
def tdO (q m s h t : Nat) : Option (Nat × Nat) := (duF q m (h ^^^ 2 ^ (t % q) ^^^ s) t).map fun l => (h ^^^ 2 ^ (t % q), l)
theorem du_none {q m d t : Nat} (c : t < ltF q d (t % q)) : duF q m d t = none := by
  unfold duF
  rw [if_pos c]
theorem du_some {q m d t : Nat} (c : ¬ t < ltF q d (t % q)) : duF q m d t = some (min (t - ltF q d (t % q)) (m - 1)) := by
  unfold duF
  rw [if_neg c]
theorem du_lt {q m d t l : Nat} (hm : 0 < m) (h : duF q m d t = some l) : l < m := by
  unfold duF at h
  by_cases c : t < ltF q d (t % q)
  · rw [if_pos c] at h
    cases h
  · rw [if_neg c] at h
    have := Option.some.inj h
    omega
theorem pair_small {q m d h t : Nat} (hq : 0 < q) (hq6 : q ≤ 60) (hm : 0 < m) (hm2 : m ≤ 1000000000000000000) (hh : h < 2 ^ q) (ab : Nat × Nat) (e : (duF q m d t).map (fun l => (h ^^^ 2 ^ (t % q), l)) = some ab) : ab.1 < 2 ^ 61 ∧ ab.2 < 2 ^ 61 := by
  cases z : duF q m d t with
  | none => rw [z] at e; cases e
  | some l =>
    rw [z] at e
    have e : (h ^^^ 2 ^ (t % q), l) = ab := Option.some.inj e
    subst e
    have := du_lt hm z
    refine ⟨?_, by show l < 2 ^ 61; omega⟩
    exact Nat.lt_of_lt_of_le (Nat.xor_lt_two_pow hh (Nat.pow_lt_pow_right (by decide) (Nat.mod_lt _ hq))) (Nat.pow_le_pow_right (by decide) (by omega))
end Bf
namespace Bf
open PySem PySem.Spec PyProof.Rows L2 LamX NdefX
def PotC (H : Hp) (a : Addr) (n : Nat) : Prop := ∃ x y z : Int, H a = some (.lst [.int x, .int y, .int z]) ∧ 0 ≤ x ∧ 0 ≤ y ∧ y < 4611686018427387904 ∧ 0 ≤ z ∧ z ≤ n
theorem PotC.up {H : Hp} {a : Addr} {n m : Nat} (h : PotC H a n) (l : n ≤ m) : PotC H a m := let ⟨x, y, z, h1, h2, h3, h4, h5, h6⟩ := h; ⟨x, y, z, h1, h2, h3, h4, h5, by omega⟩
theorem PotC.new {H : Hp} {a p : Addr} {n : Nat} {o : HO} (h : PotC H a n) (hp : H p = none) : PotC (upd H p o) a n := let ⟨x, y, z, h1, h2⟩ := h; ⟨x, y, z, by rw [upd_ne (ne_of_none h1 hp)]; exact h1, h2⟩
theorem PotC.same {H H' : Hp} {a : Addr} {n : Nat} (h : PotC H a n) (s : Same H H') : PotC H' a n := let ⟨x, y, z, h1, h2⟩ := h; ⟨x, y, z, s _ _ h1, h2⟩

theorem PotC.ext {H H' : Hp} {a : Addr} {n : Nat} (h : PotC H a n) (s : ExtN H H') : PotC H' a n := let ⟨x, y, z, h1, h2⟩ := h; ⟨x, y, z, s _ _ h1 (fun ps z => nomatch z), h2⟩
theorem tabs_keepsC {T : List (Addr × Str)} {H H' : Hp} {a : Addr} {m : Nat} (p : PotC H a m) (t : Tabs T H) (k : Keeps a H H') : Tabs T H' := fun q hq => by
  obtain ⟨x, y, z, hH, _⟩ := p
  obtain ⟨ps, h1, h2, h3⟩ := t q hq
  refine ⟨ps, k _ _ (fun e => ?_) h1, h2, fun pos cv hc => ?_⟩
  · rw [e, hH] at h1
    cases h1
  · obtain ⟨c, e1, e2⟩ := h3 pos cv hc
    refine ⟨c, e1, k _ _ (fun e => ?_) e2⟩
    rw [e, hH] at e2
    unfold CodeO at e2
    cases e2
theorem potC_ne {H : Hp} {p u : Addr} {m : Nat} (h : PotC H p m) (n : H u = none) : u ≠ p := fun e => by
  obtain ⟨x, y, z, hH, _⟩ := h
  rw [e, hH] at n
  cases n
end Bf
namespace Bf
open PySem PySem.Spec PyProof.Rows L2 LamX NdefX
/-! ### tellings -/
def trip (q m s t h : Nat) : Option (Nat × Nat × Nat) := (duF q m (h ^^^ 2 ^ (t % q) ^^^ s) t).map fun l => (h, h ^^^ 2 ^ (t % q), l)
def trL (q m s t n : Nat) : List (Nat × Nat × Nat) := (List.range n).filterMap (trip q m s t)
theorem trL_none {q m s t n : Nat} (h : duF q m (n ^^^ 2 ^ (t % q) ^^^ s) t = none) : trL q m s t (n + 1) = trL q m s t n := by
  unfold trL
  rw [List.range_succ, List.filterMap_append]
  simp [trip, h]
theorem trL_some {q m s t n l : Nat} (h : duF q m (n ^^^ 2 ^ (t % q) ^^^ s) t = some l) : trL q m s t (n + 1) = trL q m s t n ++ [(n, n ^^^ 2 ^ (t % q), l)] := by
  unfold trL
  rw [List.range_succ, List.filterMap_append]
  simp [trip, h]
theorem trL_len (q m s t n : Nat) : (trL q m s t n).length ≤ n := by
  unfold trL
  have := List.length_filterMap_le (trip q m s t) (List.range n)
  rw [List.length_range] at this
  exact this
theorem trL_small {q m s t : Nat} (hq : 0 < q) (hq6 : q ≤ 6) (hm : 0 < m) (hm6 : m ≤ 60) : ∀ x ∈ trL q m s t (2 ^ q), x.1 < 128 ∧ x.2.1 < 128 ∧ x.2.2 < 128 := by
  intro x hx
  unfold trL at hx
  obtain ⟨h, hh, e⟩ := List.mem_filterMap.mp hx
  have hh := List.mem_range.mp hh
  have hz : 2 ^ q ≤ 2 ^ 6 := Nat.pow_le_pow_right (by decide) hq6
  have h2 := Nat.xor_lt_two_pow hh (Nat.pow_lt_pow_right (a := 2) (by decide) (Nat.mod_lt t hq))
  unfold trip at e
  cases z : duF q m (h ^^^ 2 ^ (t % q) ^^^ s) t with
  | none => rw [z] at e; cases e
  | some l =>
    rw [z] at e
    have e : (h, h ^^^ 2 ^ (t % q), l) = x := Option.some.inj e
    have := du_lt hm z
    subst e
    refine ⟨by show h < 128; omega, by show h ^^^ 2 ^ (t % q) < 128; omega, by show l < 128; omega⟩
abbrev Trip := Nat × Nat × Nat
def bD (x : Trip) : PyData := .tuple (nd' [x.1, x.2.1, x.2.2])
def tsL (q m s n : Nat) : List (List Trip) := (List.range n).map fun t => trL q m s t (2 ^ q)
theorem tsL_succ (q m s n : Nat) : tsL q m s (n + 1) = tsL q m s n ++ [trL q m s n (2 ^ q)] := by
  unfold tsL
  rw [List.range_succ, List.map_append]
  rfl
def KTu (H H' : Hp) : Prop := ∀ p ns, H p = some (.tup ns) → H' p = some (.tup ns)
theorem ktu_ext {H H' : Hp} (x : ExtN H H') : KTu H H' := fun p ns h => x _ _ h (fun ps z => nomatch z)
theorem ktu_lst {H : Hp} {L : Addr} {l l' : List V} (e : H L = some (.lst l)) : KTu H (upd H L (.lst l')) := fun p ns h => by
  rw [upd_ne (fun z => by rw [z, e] at h; cases h)]
  exact h
theorem KTu.trans {A B C : Hp} (x : KTu A B) (y : KTu B C) : KTu A C := fun p ns h => y p ns (x p ns h)
def TrA (H : Hp) : List V → List Trip → Prop
  | [], [] => True
  | v :: vs, x :: xs => (∃ p, v = .ref p ∧ H p = some (.tup (nv [x.1, x.2.1, x.2.2]))) ∧ TrA H vs xs
  | _, _ => False
theorem TrA.mono {H H' : Hp} (k : KTu H H') : ∀ {vs : List V} {xs : List Trip}, TrA H vs xs → TrA H' vs xs
  | [], [], _ => trivial
  | v :: vs, x :: xs, ⟨⟨p, e, h⟩, r⟩ => ⟨⟨p, e, k _ _ h⟩, TrA.mono k r⟩
  | [], _ :: _, h => h.elim
  | _ :: _, [], h => h.elim
theorem TrA.snoc {H : Hp} {v : V} {x : Trip} (hv : ∃ p, v = .ref p ∧ H p = some (.tup (nv [x.1, x.2.1, x.2.2]))) : ∀ {vs : List V} {xs : List Trip}, TrA H vs xs → TrA H (vs ++ [v]) (xs ++ [x])
  | [], [], _ => ⟨hv, trivial⟩
  | _ :: _, _ :: _, ⟨h, r⟩ => ⟨h, TrA.snoc hv r⟩
  | [], _ :: _, h => h.elim
  | _ :: _, [], h => h.elim
theorem TrA.len {H : Hp} : ∀ {vs : List V} {xs : List Trip}, TrA H vs xs → vs.length = xs.length
  | [], [], _ => rfl
  | _ :: _, _ :: _, ⟨_, r⟩ => by rw [List.length_cons, List.length_cons, r.len]
  | [], _ :: _, h => h.elim
  | _ :: _, [], h => h.elim
theorem TrA.dp {K : PySem.W.Frag} {H : Hp} : ∀ {vs : List V} {xs : List Trip}, TrA H vs xs → DpAll K H vs (xs.map bD)
  | [], [], _ => .nil
  | _ :: _, x :: _, ⟨⟨p, e, h⟩, r⟩ => by subst e; exact .cons (dp_tup (ns := [x.1, x.2.1, x.2.2]) (.inl (.inl h))) r.dp
  | [], _ :: _, h => h.elim
  | _ :: _, [], h => h.elim
def BtA (H : Hp) : List V → List (List Trip) → Prop
  | [], [] => True
  | v :: vs, x :: xs => (∃ p us, v = .ref p ∧ H p = some (.tup us) ∧ TrA H us x) ∧ BtA H vs xs
  | _, _ => False
theorem BtA.mono {H H' : Hp} (k : KTu H H') : ∀ {vs : List V} {xs : List (List Trip)}, BtA H vs xs → BtA H' vs xs
  | [], [], _ => trivial
  | v :: vs, x :: xs, ⟨⟨p, us, e, h, t⟩, r⟩ => ⟨⟨p, us, e, k _ _ h, t.mono k⟩, BtA.mono k r⟩
  | [], _ :: _, h => h.elim
  | _ :: _, [], h => h.elim
theorem BtA.snoc {H : Hp} {v : V} {x : List Trip} (hv : ∃ p us, v = .ref p ∧ H p = some (.tup us) ∧ TrA H us x) : ∀ {vs : List V} {xs : List (List Trip)}, BtA H vs xs → BtA H (vs ++ [v]) (xs ++ [x])
  | [], [], _ => ⟨hv, trivial⟩
  | _ :: _, _ :: _, ⟨h, r⟩ => ⟨h, BtA.snoc hv r⟩
  | [], _ :: _, h => h.elim
  | _ :: _, [], h => h.elim
theorem BtA.len {H : Hp} : ∀ {vs : List V} {xs : List (List Trip)}, BtA H vs xs → vs.length = xs.length
  | [], [], _ => rfl
  | _ :: _, _ :: _, ⟨_, r⟩ => by rw [List.length_cons, List.length_cons, r.len]
  | [], _ :: _, h => h.elim
  | _ :: _, [], h => h.elim
def pD (ts : List Trip) : PyData := .tuple (ts.map bD)
theorem BtA.dp {K : PySem.W.Frag} {H : Hp} : ∀ {vs : List V} {xs : List (List Trip)}, BtA H vs xs → DpAll K H vs (xs.map pD)
  | [], [], _ => .nil
  | _ :: _, x :: _, ⟨⟨p, us, e, h, t⟩, r⟩ => by subst e; exact .cons (.tup (.inl (.inl h)) t.dp) r.dp
  | [], _ :: _, h => h.elim
  | _ :: _, [], h => h.elim
/-! ### how they are shown -/
theorem nd_weight7 : ∀ ns : List Nat, (∀ n ∈ ns, n < 128) → PyData.weightAll (nd' ns) ≤ 8 * ns.length
  | [], _ => Nat.le_refl _
  | n :: ns, h => by
    have h1 : n < 2 ^ 7 := h n List.mem_cons_self
    have ih := nd_weight7 ns fun m hm => h m (List.mem_cons_of_mem _ hm)
    have e : PyData.weight (.int (n : Int)) ≤ 7 := by
      simp only [PyData.weight]
      by_cases z : n = 0
      · subst z; decide
      · have := (Nat.log2_lt z).mpr h1
        rw [if_neg (by simpa using z)]
        simp
        omega
    show PyData.weight (.int (n : Int)) + 1 + PyData.weightAll (nd' ns) ≤ 8 * (ns.length + 1)
    omega
structure Ok2 (d : PyData) (W D : Nat) : Prop where
  sh : d.showable = true
  di : d.hasDict = false
  de : d.depth ≤ D
  lv : d.leavesShort 64 = true
  we : d.weight ≤ W
  ca : d.canLay0 = true
theorem ok2_all {W D : Nat} : ∀ ds : List PyData, (∀ d ∈ ds, Ok2 d W D) → PyData.showableAll ds = true ∧ PyData.hasDictAll ds = false ∧ PyData.depthAll ds ≤ D ∧ PyData.leavesShortAll 64 ds = true ∧ PyData.weightAll ds ≤ (W + 1) * ds.length ∧ PyData.canLayAll0 ds = true
  | [], _ => ⟨rfl, rfl, Nat.zero_le _, rfl, Nat.le_refl _, rfl⟩
  | d :: ds, h => by
    obtain ⟨a1, a2, a3, a4, a5, a6⟩ := ok2_all ds fun x hx => h x (List.mem_cons_of_mem _ hx)
    have o := h d List.mem_cons_self
    refine ⟨?_, ?_, ?_, ?_, ?_, ?_⟩
    · show (PyData.showable d && PyData.showableAll ds) = true
      rw [o.sh, a1]
      rfl
    · show (PyData.hasDict d || PyData.hasDictAll ds) = false
      rw [o.di, a2]
      rfl
    · show max (PyData.depth d) (PyData.depthAll ds) ≤ D
      have := o.de
      omega
    · show (PyData.leavesShort 64 d && PyData.leavesShortAll 64 ds) = true
      rw [o.lv, a4]
      rfl
    · show PyData.weight d + 1 + PyData.weightAll ds ≤ (W + 1) * (ds.length + 1)
      have := o.we
      rw [Nat.mul_add, Nat.mul_one]
      omega
    · show (PyData.canLay0 d && PyData.canLayAll0 ds) = true
      rw [o.ca, a6]
      rfl
theorem ok2_bD {x : Trip} (h : x.1 < 128 ∧ x.2.1 < 128 ∧ x.2.2 < 128) : Ok2 (bD x) 24 2 := by
  have hl : ∀ n ∈ [x.1, x.2.1, x.2.2], n < 128 := fun n hn => by
    simp only [List.mem_cons, List.not_mem_nil, or_false] at hn
    rcases hn with rfl | rfl | rfl
    · exact h.1
    · exact h.2.1
    · exact h.2.2
  have hl2 : ∀ n ∈ [x.1, x.2.1, x.2.2], n < 2 ^ 61 := fun n hn => Nat.lt_trans (hl n hn) (by decide)
  exact ⟨nd_show _ hl2, nd_dict _, nd_dep _, nd_leaves _ hl2, nd_weight7 _ hl, nd_canAll _⟩
theorem ok2_tup {ds : List PyData} {W D n : Nat} (h : ∀ d ∈ ds, Ok2 d W D) (hn : ds.length ≤ n) : Ok2 (.tuple ds) ((W + 1) * n) (D + 1) := by
  obtain ⟨a1, a2, a3, a4, a5, a6⟩ := ok2_all ds h
  refine ⟨a1, a2, ?_, a4, ?_, a6⟩
  · show PyData.depthAll ds + 1 ≤ D + 1
    omega
  · show PyData.weightAll ds ≤ (W + 1) * n
    exact Nat.le_trans a5 (Nat.mul_le_mul_left _ hn)
theorem plan_ok {q m s : Nat} (hq : 0 < q) (hq6 : q ≤ 6) (hm : 0 < m) (hm6 : m ≤ 60) : Ok2 (.tuple ((tsL q m s (m - 1 + q)).map pD)) ((25 * 64 + 1) * 65) 4 := by
  refine ok2_tup (W := 25 * 64) (D := 3) (fun d hd => ?_) ?_
  · obtain ⟨ts, hts, rfl⟩ := List.mem_map.mp hd
    unfold tsL at hts
    obtain ⟨t, _, rfl⟩ := List.mem_map.mp hts
    refine ok2_tup (W := 24) (D := 2) (fun e he => ?_) ?_
    · obtain ⟨x, hx, rfl⟩ := List.mem_map.mp he
      exact ok2_bD (trL_small hq hq6 hm hm6 x hx)
    · rw [List.length_map]
      have := trL_len q m s t (2 ^ q)
      have hz : 2 ^ q ≤ 2 ^ 6 := Nat.pow_le_pow_right (by decide) hq6
      omega
  · unfold tsL
    rw [List.length_map, List.length_map, List.length_range]
    omega
theorem plan_shown {q m s : Nat} (hq : 0 < q) (hq6 : q ≤ 6) (hm : 0 < m) (hm6 : m ≤ 60) : (PyData.tuple ((tsL q m s (m - 1 + q)).map pD)).shown.length ≤ sizeLine := by
  have o := plan_ok (s := s) hq hq6 hm hm6
  have h1 := PyData.shown_le 64 (by decide) _ o.lv
  have h2 := o.we
  rw [sizeLine_eq]
  have h3 : (64 + 2) * PyData.weight (.tuple ((tsL q m s (m - 1 + q)).map pD)) ≤ 66 * ((25 * 64 + 1) * 65) := Nat.mul_le_mul (by decide) h2
  omega
theorem plan_shaped {q m s : Nat} (hq : 0 < q) (hq6 : q ≤ 6) (hm : 0 < m) (hm6 : m ≤ 60) : SeqAt.shaped (.tuple ((tsL q m s (m - 1 + q)).map pD)) = true := by
  have o := plan_ok (s := s) hq hq6 hm hm6
  unfold SeqAt.shaped
  rw [o.ca, Bool.true_and]
  exact decide_eq_true (Nat.le_trans o.de (by decide))
/-! ### how far the next bit is -/
def upL (q d k n : Nat) : List Nat := ((List.range n).map (· + 1)).filter fun f => d.testBit ((k + f) % q)
theorem upL_succ (q d k n : Nat) : upL q d k (n + 1) = upL q d k n ++ (if d.testBit ((k + (n + 1)) % q) = true then [n + 1] else []) := by
  unfold upL
  rw [List.range_succ, List.map_append, List.filter_append]
  by_cases h : d.testBit ((k + (n + 1)) % q) = true
  · simp [h]
  · simp [h]
theorem upL_len (q d k n : Nat) : (upL q d k n).length ≤ n := by
  unfold upL
  have := List.length_filter_le (fun f => d.testBit ((k + f) % q)) ((List.range n).map (· + 1))
  rw [List.length_map, List.length_range] at this
  exact this
theorem upL_rb (q d k : Nat) : (upL q d k q).map (fun f => (k + f) % q) = rb q d (k + 1) := by
  unfold upL rb
  rw [List.filter_map, List.filter_map, List.map_map]
  have e : ∀ i, (k + (i + 1)) % q = (k + 1 + i) % q := fun i => by rw [Nat.add_assoc k 1 i, Nat.add_comm 1 i]
  have e2 : ((fun f => (k + f) % q) ∘ fun x => x + 1) = fun i => (k + 1 + i) % q := funext e
  have e3 : ((fun f => d.testBit ((k + f) % q)) ∘ fun x => x + 1) = ((fun x => d.testBit x) ∘ fun i => (k + 1 + i) % q) := funext fun i => by
    show d.testBit ((k + (i + 1)) % q) = d.testBit ((k + 1 + i) % q)
    rw [e]
  rw [e2, e3]
theorem up_is {q d k : Nat} (hq : 0 < q) (hk : k < q) (b : d.testBit k = true) : ∃ u rest, upL q d k q = u :: rest ∧ 1 ≤ u ∧ u ≤ q ∧ ltF q d k = (q - u) % q := by
  have h1 := trF_head hk b
  rw [← upL_rb] at h1
  cases e : upL q d k q with
  | nil => rw [e] at h1; cases h1
  | cons u rest =>
    rw [e] at h1
    have h2 : (k + u) % q = trF q d k := Option.some.inj h1
    have hu : u ∈ upL q d k q := by rw [e]; exact List.mem_cons_self
    unfold upL at hu
    obtain ⟨i, hi, rfl⟩ := List.mem_map.mp (List.mem_filter.mp hu).1
    have hi := List.mem_range.mp hi
    refine ⟨i + 1, rest, rfl, by omega, by omega, ?_⟩
    have h3 := ltF_in hq b
    rw [← h2] at h3
    have h4 : ar q ((k + (i + 1)) % q) k = (((q - (i + 1)) % q : Nat) : Int) := by
      unfold ar
      rw [Int.natCast_emod, Int.natCast_emod, Int.sub_emod, Int.emod_emod, ← Int.sub_emod]
      have e5 : ((k : Int) - ((k + (i + 1) : Nat) : Int)) = ((q - (i + 1) : Nat) : Int) + (q : Int) * (-1) := by omega
      rw [e5, Int.add_mul_emod_self_left]
    rw [h4] at h3
    exact Int.ofNat.inj h3
end Bf
namespace Bf
open PySem PySem.Spec PyProof.Rows L2 LamX NdefX
/-! ### t * k for k from 0 on -/
theorem tuple_mulZ (l : Addr) (items : Array Value) (n : Nat) (dd : Option Addr) (sl : Array (Option Value)) (x : Int) (u : Tok) (c0 : (decide (x < -(2 ^ 63)) || decide (x ≥ 2 ^ 63)) = false) (c1 : (items.isEmpty || x == 1) = false) (c2 : (decide (x ≤ 0) || items.isEmpty) = true) :
    Meets (Builtin.«tuple.__mul__» ⟨[.ref l, .int x u], []⟩) (fun _ R s => s.heap.get? l = some { cls := .type "tuple", dict := dd, data := .seq items n, slots := sl } ∧
      R (.ok (.ret (Value.ref s.heap.objs.size))) { s with heap := s.heap.push { cls := Value.type "tuple", data := Data.seq #[] }, toks := s.toks }) :=
  .of_wp fun prog w A R s h => by
    obtain ⟨hp, g, d, tk, os⟩ := s
    obtain ⟨hl, h⟩ := h
    have f1 := AutoSeq1.idx_int
    wp_walk using wpAny_loadPart' hl
    repeat (first
      | (refine wpAny_ite_false (decide_eq_false (by rw [c0]; exact Bool.false_ne_true)) ?_; wp_walk using wpAny_loadPart' hl)
      | (refine wpAny_ite_false (decide_eq_false (by rw [c1]; exact Bool.false_ne_true)) ?_; wp_walk using wpAny_loadPart' hl)
      | (refine wpAny_ite_true (decide_eq_true c2) ?_; wp_walk using wpAny_loadPart' hl))
    exact ⟨_, rfl, h⟩
def rRepZ (K : PySem.W.Frag) : R2 := fun x y H Q => ∃ l k xs, x = .ref l ∧ y = .int k ∧ SqT K H l xs ∧ xs ≠ [] ∧ 0 ≤ k ∧ k ≤ 1000 ∧ xs.length ≤ 1000 ∧
  (k = 1 → Q (.ref l) H) ∧ (k ≠ 1 → ∀ p, H p = none → Q (.ref p) (upd H p (.tup (List.replicate k.toNat xs).flatten)))
theorem op_repZ {X : Cx} : OpR X (binaryOp .Mult) (rRepZ X.K) := by
  intro pins s σ H x y v u Q I rx ry h
  obtain ⟨l, k, xs, rfl, rfl, hT, hne, h1, h2, hz, q1, q2⟩ := h
  by_cases hk : 2 ≤ k
  · exact op_repT pins s σ H _ _ v u Q I rx ry ⟨l, k, xs, rfl, rfl, hT, hne, hk, h2, hz, q2 (by omega)⟩
  cases rx
  obtain ⟨t, rfl⟩ := ry
  obtain ⟨its, r, ⟨⟨cls, dd, data, sl⟩, ho, hc, n, hd⟩, hs⟩ := I.tuple hT
  simp only at hc hd
  subst hc hd
  have hle : its.length = xs.length := r.length.symm
  have hn : its ≠ [] := fun e => hne (by
    rw [e] at hle
    exact List.eq_nil_of_length_eq_zero hle.symm)
  have hi : its.toArray.isEmpty = false := by
    cases its with
    | nil => exact absurd rfl hn
    | cons a b => rfl
  have c0 : (decide (k < -(2 ^ 63)) || decide (k ≥ 2 ^ 63)) = false := by
    rw [decide_eq_false (by omega), decide_eq_false (by omega)] <;> rfl
  by_cases h0 : k = 1
  · subst h0
    exact wpAny_binaryOp_repeat_ref (T := "tuple") (U := "int") (by decide) ⟨_, ho, rfl⟩ (fun s' => typeIs_int s' 1 t) noFill_tuple_mul F.fills_int_mul F.slot_int_rmul repeat_tuple F.slot_int_index.lookup
      (call_meets F.slot_int_rmul (typeIs_int s 1 t) F.entry_int_rmul (F.args_int_rmul_2 _ _) (int_rmul_tuple 1 t l its.toArray n dd sl)
        ⟨ho, rfl, ⟨_, ho, rfl⟩, call_meets F.slot_tuple_mul ⟨_, ho, rfl⟩ F.entry_tuple_mul (F.args_tuple_mul_2 _ _) (tuple_mul0 l its.toArray n dd sl 1 t c0 (by rw [hi]; rfl)) ⟨ho, ⟨.ref l, H, I, rfl, q1 rfl⟩⟩⟩)
  · have hk0 : k = 0 := by omega
    subst hk0
    have c1 : (its.toArray.isEmpty || (0 : Int) == 1) = false := by
      rw [hi]
      rfl
    have c2 : (decide ((0 : Int) ≤ 0) || its.toArray.isEmpty) = true := rfl
    refine wpAny_binaryOp_repeat_ref (T := "tuple") (U := "int") (by decide) ⟨_, ho, rfl⟩ (fun s' => typeIs_int s' 0 t) noFill_tuple_mul F.fills_int_mul F.slot_int_rmul repeat_tuple F.slot_int_index.lookup
      (call_meets F.slot_int_rmul (typeIs_int s 0 t) F.entry_int_rmul (F.args_int_rmul_2 _ _) (int_rmul_tuple 0 t l its.toArray n dd sl)
        ⟨ho, rfl, ⟨_, ho, rfl⟩, call_meets F.slot_tuple_mul ⟨_, ho, rfl⟩ F.entry_tuple_mul (F.args_tuple_mul_2 _ _) (tuple_mulZ l its.toArray n dd sl 0 t c0 c1 c2) ⟨ho, ?_⟩⟩)
    refine ⟨.ref s.heap.objs.size, _, I.laid (t' := s.toks) (o := .tup (List.replicate (0 : Int).toNat xs).flatten) (fun b ob q => Heap.get?_push_of_some _ q) (Nat.le_refl _) ?_, rfl, q2 (by decide) _ (I.hok.fresh (Nat.le_refl _))⟩
    exact ⟨Nat.zero_le _, [], .nil, IsTup.new _ _⟩
/-! ### walks -/
theorem walk_revT {K : PySem.W.Frag} {a : Addr} {xs : List V} : Walk (RT.ItvT K a xs.length) xs.length (fun H => SqT K H a xs) (fun i H x H' => H' = H ∧ xs[xs.length - 1 - i]? = some x) :=
  ⟨fun i _ hi q => ⟨hi, xs, xs[xs.length - 1 - i]'(by omega), q, by simp [show xs.length - 1 - i < xs.length by omega]⟩, fun _ _ => Nat.le_refl _, fun _ _ _ _ _ q y => ⟨y.1, y.2 xs q⟩⟩
theorem walk_zipT {K : PySem.W.Frag} {a b : Addr} {xs ys : List V} {n : Nat} (hn : n = min xs.length ys.length) : Walk (RZ.ItzT K a b) n (fun H => SqT K H a xs ∧ SqT K H b ys) (YPair (fun i => xs[i]?) (fun i => ys[i]?)) := by
  subst hn
  refine ⟨fun i _ hi q => ?_, fun _ q => ⟨xs, ys, q.1, q.2, by omega⟩, fun i H v H' _ q y => ?_⟩
  · have h1 : i < xs.length := by omega
    have h2 : i < ys.length := by omega
    exact ⟨xs, ys, xs[i], ys[i], q.1, q.2, by simp [h1], by simp [h2]⟩
  · obtain ⟨T, x, z, h1, h2, h3, h4, h5⟩ := y
    exact ⟨T, x, z, h1, h2, h3, h4 xs q.1, h5 ys q.2⟩
/-! ### what a row comes to -/
def ev : List Nat → Nat → Nat
  | [], _ => 0
  | a :: as, x => a + x * ev as x
theorem ev_snoc (x a : Nat) : ∀ ns : List Nat, ev (ns ++ [a]) x = ev ns x + a * x ^ ns.length
  | [] => by simp [ev]
  | b :: ns => by
    show b + x * ev (ns ++ [a]) x = b + x * ev ns x + a * x ^ (ns.length + 1)
    rw [ev_snoc x a ns, Nat.mul_add, Nat.pow_succ]
    have : x * (a * x ^ ns.length) = a * (x ^ ns.length * x) := by rw [Nat.mul_left_comm, Nat.mul_comm x]
    omega
theorem ev_zeros (x : Nat) (ns : List Nat) : ∀ k, ev (ns ++ List.replicate k 0) x = ev ns x
  | 0 => by rw [List.replicate_zero, List.append_nil]
  | k + 1 => by
    rw [List.replicate_succ', ← List.append_assoc, ev_snoc, ev_zeros x ns k]
    simp
theorem ev_more (p x c : Nat) : ∀ as bs : List Nat, as.length = bs.length → ev ((as.zip bs).map fun ab => (ab.1 + c * ab.2) % p) x % p = (ev as x + c * ev bs x) % p
  | [], [], _ => by simp [ev]
  | a :: as, b :: bs, h => by
    have ih := ev_more p x c as bs (by simpa using h)
    show ((a + c * b) % p + x * ev ((as.zip bs).map fun ab => (ab.1 + c * ab.2) % p) x) % p = (a + x * ev as x + c * (b + x * ev bs x)) % p
    rw [Nat.add_mod, Nat.mod_mod, Nat.mul_mod, ih, ← Nat.mul_mod, ← Nat.add_mod]
    congr 1
    rw [Nat.mul_add, Nat.mul_add, Nat.mul_left_comm c x]
    omega
theorem ev_step {p x a : Nat} {as : List Nat} : (ev as x % p * x + a) % p = ev (a :: as) x % p := by
  show _ = (a + x * ev as x) % p
  rw [Nat.add_comm a, Nat.mul_comm x, Nat.add_mod, Nat.mul_mod, Nat.mod_mod, ← Nat.mul_mod, ← Nat.add_mod]
theorem ev_pow {p x a : Nat} {as : List Nat} : (ev as x % p + a * (x ^ as.length % p)) % p = ev (as ++ [a]) x % p := by
  rw [ev_snoc, Nat.add_mod, Nat.mod_mod, Nat.mul_mod, Nat.mod_mod, ← Nat.mul_mod, ← Nat.add_mod]
theorem pow_step {p x n : Nat} : x ^ n % p * x % p = x ^ (n + 1) % p := by
  rw [Nat.pow_succ, Nat.mul_mod, Nat.mod_mod, ← Nat.mul_mod]
theorem rep_zero : ∀ k : Nat, (List.replicate k [V.int 0]).flatten = nv (List.replicate k 0)
  | 0 => rfl
  | k + 1 => by
    rw [List.replicate_succ, List.flatten_cons, rep_zero k, List.replicate_succ]
    rfl
/-! ### how rows are shown -/
theorem ok2_row {ns : List Nat} (h : ∀ n ∈ ns, n < 2 ^ 61) (hl : ns.length ≤ 100) : Ok2 (.tuple (nd' ns)) 6300 2 := by
  refine ⟨nd_show _ h, nd_dict _, nd_dep _, nd_leaves _ h, ?_, nd_canAll _⟩
  have h2 : PyData.weight (.tuple (nd' ns)) ≤ 63 * ns.length := nd_weight ns h
  omega
theorem two_shown {ds : List PyData} (h : ∀ d ∈ ds, Ok2 d 6300 2) (hl : ds.length ≤ 2) : (PyData.showableAll ds = true ∧ PyData.hasDictAll ds = false ∧ PyData.depthAll ds + 1 < 60) ∧ (PyData.tuple ds).shown.length ≤ sizeLine ∧ (PyData.list ds).shown.length ≤ sizeLine := by
  obtain ⟨a1, a2, a3, a4, a5, a6⟩ := ok2_all ds h
  refine ⟨⟨a1, a2, by omega⟩, ?_, ?_⟩
  · have h1 := PyData.shown_le 64 (by decide) (.tuple ds) a4
    have h2 : PyData.weight (.tuple ds) ≤ 6301 * ds.length := a5
    rw [sizeLine_eq]
    have h3 : (64 + 2) * PyData.weight (.tuple ds) ≤ 66 * (6301 * 2) := Nat.mul_le_mul (by decide) (by omega)
    omega
  · have h1 := PyData.shown_le 64 (by decide) (.list ds) a4
    have h2 : PyData.weight (.list ds) ≤ 6301 * ds.length := a5
    rw [sizeLine_eq]
    have h3 : (64 + 2) * PyData.weight (.list ds) ≤ 66 * (6301 * 2) := Nat.mul_le_mul (by decide) (by omega)
    omega
end Bf
namespace Bf
open PySem PySem.Spec PyProof.Rows L2 LamX NdefX
/-! ### who is between -/
def Bt (q d j e : Nat) : Prop := ∃ i, 1 ≤ i ∧ i < (cl q d j).length ∧ wf 0 ((cl q d j).take i) = e
def OnW (q d e j : Nat) : Prop := e.testBit j = true ∧ ∀ x y, x < q → e.testBit y = true → ar q j x ≤ ar q j y → x ≠ j → e.testBit x = d.testBit x
theorem tp_mem {q d j x : Nat} (hj : j < q) : x ∈ tp q d j (q - 1) ↔ x < q ∧ x ≠ j ∧ d.testBit x = true := by
  unfold tp
  rw [List.mem_filter, List.mem_map]
  constructor
  · rintro ⟨⟨i, hi, rfl⟩, hb⟩
    have hi := List.mem_range.mp hi
    refine ⟨Nat.mod_lt _ (by omega), fun e => ?_, hb⟩
    have h1 := ar_at (q := q) (i := 1 + i) j (by omega)
    rw [e, ar_self] at h1
    omega
  · rintro ⟨hx, hne, hb⟩
    obtain ⟨i, hi, e⟩ := at_of j hx
    have h0 : i ≠ 0 := fun z => hne (by rw [← e, z, Nat.add_zero, Nat.mod_eq_of_lt hj])
    exact ⟨⟨i - 1, List.mem_range.mpr (by omega), by rw [show 1 + (i - 1) = i by omega]; exact e⟩, hb⟩
theorem tp_sorted {q d j : Nat} (hj : j < q) : (tp q d j (q - 1)).Pairwise (fun a b => ar q j a < ar q j b) := by
  have h := rb_sorted q d j
  rw [rb_split hj] at h
  exact (List.pairwise_append.mp h).2.1
theorem cut_sorted {α : Type} {key : α → Int} {P : α → Bool} : ∀ {l : List α}, l.Pairwise (fun a b => key a < key b) → (∀ x y, x ∈ l → y ∈ l → key x < key y → P y = true → P x = true) → l.filter P = l.take (l.filter P).length
  | [], _, _ => rfl
  | a :: l, hs, hc => by
    obtain ⟨h1, h2⟩ := List.pairwise_cons.mp hs
    have ih := cut_sorted (P := P) h2 fun x y hx hy => hc x y (List.mem_cons_of_mem _ hx) (List.mem_cons_of_mem _ hy)
    cases e : P a with
    | true =>
      rw [List.filter_cons_of_pos e, List.length_cons, List.take_succ_cons, ← ih]
    | false =>
      have hn : l.filter P = [] := List.filter_eq_nil_iff.mpr fun y hy z => by
        have := hc a y List.mem_cons_self (List.mem_cons_of_mem _ hy) (h1 y hy) z
        rw [e] at this
        cases this
      rw [List.filter_cons_of_neg (by rw [e]; decide), hn]
      rfl
theorem take_nodup {q d j i : Nat} (hj : j < q) : (j :: (tp q d j (q - 1)).take i).Nodup := by
  refine List.nodup_cons.mpr ⟨fun h => ?_, ?_⟩
  · exact ((tp_mem hj).mp (List.mem_of_mem_take h)).2.1 rfl
  · exact ((tp_sorted hj).imp fun {a b} h e => by rw [e] at h; omega).sublist (List.take_sublist _ _)
theorem cl_take {q d j i : Nat} (hi : i ≤ (tp q d j (q - 1)).length) : (cl q d j).take (i + 1) = j :: (tp q d j (q - 1)).take i := by
  unfold cl
  rw [List.cons_append, List.take_succ_cons, List.take_append_of_le_length hi]
theorem bt_iff {q d j e : Nat} (hj : j < q) (hd : d < 2 ^ q) (he : e < 2 ^ q) : Bt q d j e ↔ OnW q d e j ∧ e ≠ d := by
  constructor
  · rintro ⟨i, h1, h2, rfl⟩
    have hi : i - 1 ≤ (tp q d j (q - 1)).length := by
      unfold cl at h2
      rw [List.length_append, List.length_cons] at h2
      split at h2
      · have : i < (tp q d j (q - 1)).length + 1 + 0 := h2
        omega
      · have : i < (tp q d j (q - 1)).length + 1 + 1 := h2
        omega
    have ei : i = i - 1 + 1 := by omega
    have ec : (cl q d j).take i = j :: (tp q d j (q - 1)).take (i - 1) := by
      rw [ei]
      exact cl_take hi
    have hb : ∀ x, (wf 0 ((cl q d j).take i)).testBit x = decide (x ∈ j :: (tp q d j (q - 1)).take (i - 1)) := fun x => by
      rw [ec]
      exact wf_bit (take_nodup hj)
    refine ⟨⟨by rw [hb]; exact decide_eq_true List.mem_cons_self, fun x y hx hy hxy hne => ?_⟩, fun e => ?_⟩
    · rw [hb]
      rw [hb] at hy
      have hy := of_decide_eq_true hy
      cases b : d.testBit x with
      | false =>
        refine decide_eq_false fun h => ?_
        rcases List.mem_cons.mp h with h | h
        · exact hne h
        · have := ((tp_mem hj).mp (List.mem_of_mem_take h)).2.2
          rw [b] at this
          cases this
      | true =>
        refine decide_eq_true (List.mem_cons_of_mem _ ?_)
        have hmx := (tp_mem hj).mpr ⟨hx, hne, b⟩
        have hyy : y ∈ (tp q d j (q - 1)).take (i - 1) := by
          rcases List.mem_cons.mp hy with h | h
          · exfalso
            rw [h, ar_self] at hxy
            have h0 := ar_nn (q := q) (j := j) (x := x) (by omega)
            exact hne (ar_inj (j := j) hx hj (by rw [ar_self]; omega))
          · exact h
        have hs := tp_sorted (d := d) hj
        rw [← List.take_append_drop (i - 1) (tp q d j (q - 1))] at hmx hs
        rcases List.mem_append.mp hmx with h | h
        · exact h
        · have := (List.pairwise_append.mp hs).2.2 y hyy x h
          omega
    · by_cases b : d.testBit j = true
      · have hlen : (cl q d j).length = (tp q d j (q - 1)).length + 1 := by
          unfold cl
          rw [List.length_append, List.length_cons, if_pos b]
          rfl
        have hlt : i - 1 < (tp q d j (q - 1)).length := by omega
        have hm : (tp q d j (q - 1))[i - 1] ∈ tp q d j (q - 1) := List.getElem_mem hlt
        obtain ⟨m1, m2, m3⟩ := (tp_mem hj).mp hm
        have hbx := hb (tp q d j (q - 1))[i - 1]
        rw [e, m3] at hbx
        have hin := of_decide_eq_true hbx.symm
        rcases List.mem_cons.mp hin with h | h
        · exact m2 h
        · obtain ⟨k, hk, ek⟩ := List.mem_iff_getElem.mp h
          rw [List.length_take] at hk
          rw [List.getElem_take] at ek
          have hs := List.pairwise_iff_getElem.mp (tp_sorted (d := d) hj) k (i - 1) (by omega) hlt (by omega)
          rw [ek] at hs
          omega
      · have := hb j
        rw [e] at this
        rw [decide_eq_true List.mem_cons_self] at this
        exact b this
  · rintro ⟨⟨hj1, hc⟩, hne⟩
    have hcut := cut_sorted (P := fun x => e.testBit x) (tp_sorted (d := d) hj) fun x y hx hy hk hP => by
      obtain ⟨x1, x2, x3⟩ := (tp_mem hj).mp hx
      have := hc x y x1 hP (by omega) x2
      rw [this]
      exact x3
    have hle : ((tp q d j (q - 1)).filter fun x => e.testBit x).length ≤ (tp q d j (q - 1)).length := List.length_filter_le _ _
    generalize hn : ((tp q d j (q - 1)).filter fun x => e.testBit x).length = n at hcut hle
    have hbits : wf 0 (j :: (tp q d j (q - 1)).take n) = e := by
      refine Nat.eq_of_testBit_eq fun x => ?_
      rw [wf_bit (take_nodup hj), ← hcut]
      cases b : e.testBit x with
      | true =>
        refine decide_eq_true ?_
        by_cases ex : x = j
        · rw [ex]
          exact List.mem_cons_self
        · have hx := lt_of_bit he b
          have := hc x x hx b (Int.le_refl _) ex
          exact List.mem_cons_of_mem _ (List.mem_filter.mpr ⟨(tp_mem hj).mpr ⟨hx, ex, by rw [← this]; exact b⟩, b⟩)
      | false =>
        refine decide_eq_false fun h => ?_
        rcases List.mem_cons.mp h with h | h
        · rw [h, hj1] at b
          cases b
        · have := (List.mem_filter.mp h).2
          rw [b] at this
          cases this
    refine ⟨n + 1, by omega, ?_, by rw [cl_take hle]; exact hbits⟩
    unfold cl
    rw [List.length_append, List.length_cons]
    by_cases b : d.testBit j = true
    · rw [if_pos b]
      show n + 1 < (tp q d j (q - 1)).length + 1 + 0
      refine Classical.byContradiction fun z => hne ?_
      have en : n = (tp q d j (q - 1)).length := by omega
      rw [en, List.take_length] at hbits
      rw [← hbits]
      have h2 := wf_cl (q := q) (d := d) (j := j) hj hd 0
      have ecl : cl q d j = j :: tp q d j (q - 1) := by
        unfold cl
        rw [if_pos b, List.append_nil]
      rw [ecl, Nat.zero_xor] at h2
      exact h2
    · rw [if_neg b]
      show n + 1 < (tp q d j (q - 1)).length + 1 + 1
      omega
end Bf
namespace Bf
open PySem PySem.Spec PyProof.Rows L2 LamX NdefX
/-! ### the tree through a hand -/
def trn (q e j : Nat) : Nat := (e >>> j) ||| ((e &&& (2 ^ j - 1)) <<< (q - j))
theorem trn_bit {q e j k : Nat} (hj : j < q) (he : e < 2 ^ q) : (trn q e j).testBit k = (decide (k < q) && e.testBit ((k + j) % q)) := by
  unfold trn
  rw [Nat.testBit_or, Nat.testBit_shiftRight, Nat.testBit_shiftLeft, Nat.testBit_and, Nat.testBit_two_pow_sub_one]
  have hbig : ∀ x, q ≤ x → e.testBit x = false := fun x hx => Nat.testBit_lt_two_pow (Nat.lt_of_lt_of_le he (Nat.pow_le_pow_right (by decide) hx))
  by_cases hk : k < q
  · rw [decide_eq_true hk, Bool.true_and]
    by_cases h1 : k + j < q
    · rw [Nat.mod_eq_of_lt h1, decide_eq_false (show ¬ k ≥ q - j by omega), Bool.false_and, Bool.or_false, Nat.add_comm]
    · have e1 : (k + j) % q = k - (q - j) := by
        rw [Nat.mod_eq_sub_mod (by omega), Nat.mod_eq_of_lt (by omega)]
        omega
      rw [e1, hbig (j + k) (by omega), Bool.false_or, decide_eq_true (show k ≥ q - j by omega), Bool.true_and, decide_eq_true (show k - (q - j) < j by omega), Bool.and_true]
  · rw [decide_eq_false hk, Bool.false_and, hbig (j + k) (by omega), Bool.false_or]
    by_cases h1 : k - (q - j) < j
    · omega
    · rw [decide_eq_false h1, Bool.and_false, Bool.and_false]
def lnF (n : Nat) : Nat := if n = 0 then 0 else n.log2 + 1
theorem ln_bit {n k : Nat} (h : n.testBit k = true) : k < lnF n := by
  have h0 : n ≠ 0 := fun e => by rw [e, Nat.zero_testBit] at h; cases h
  unfold lnF
  rw [if_neg h0]
  have := Nat.ge_two_pow_of_testBit h
  have := (Nat.le_log2 h0).mpr this
  omega
theorem ln_top {n : Nat} (h0 : n ≠ 0) : n.testBit (lnF n - 1) = true := by
  unfold lnF
  rw [if_neg h0, Nat.add_sub_cancel]
  exact Nat.testBit_log2 h0
def iwF (q d e j : Nat) : Bool := decide (trn q e j &&& 1 = 1) && decide ((trn q e j ^^^ trn q d j) &&& (2 ^ lnF (trn q e j) - 1) ≤ 1)
theorem le_one {n : Nat} : n ≤ 1 ↔ ∀ k, 1 ≤ k → n.testBit k = false := by
  constructor
  · intro h k hk
    refine Nat.testBit_lt_two_pow (Nat.lt_of_le_of_lt h ?_)
    exact Nat.lt_of_lt_of_le (by decide : 1 < 2 ^ 1) (Nat.pow_le_pow_right (by decide) hk)
  · intro h
    refine Classical.byContradiction fun z => ?_
    have hn : n ≠ 0 := by omega
    have h1 := Nat.testBit_log2 hn
    have h2 : 1 ≤ n.log2 := (Nat.le_log2 hn).mpr (by show 2 ^ 1 ≤ n; omega)
    rw [h _ h2] at h1
    cases h1
theorem and_one {n : Nat} : n &&& 1 = 1 ↔ n.testBit 0 = true := by
  rw [Nat.and_one_is_mod, Nat.testBit_zero]
  exact ⟨fun h => decide_eq_true h, fun h => of_decide_eq_true h⟩
theorem iw_iff {q d e j : Nat} (hj : j < q) (hd : d < 2 ^ q) (he : e < 2 ^ q) : iwF q d e j = true ↔ OnW q d e j := by
  have hq : 0 < q := by omega
  unfold iwF
  rw [Bool.and_eq_true, decide_eq_true_eq, decide_eq_true_eq, and_one, le_one]
  have b0 : (trn q e j).testBit 0 = e.testBit j := by
    rw [trn_bit hj he, decide_eq_true hq, Bool.true_and, Nat.zero_add, Nat.mod_eq_of_lt hj]
  rw [b0]
  have hat : ∀ k, k < q → ar q j ((k + j) % q) = (k : Int) := fun k hk => by
    rw [Nat.add_comm]
    exact ar_at j hk
  constructor
  · rintro ⟨h1, h2⟩
    refine ⟨h1, fun x y hx hy hxy hne => ?_⟩
    obtain ⟨k, hk, ek⟩ := at_of j hx
    have hyq := lt_of_bit he hy
    obtain ⟨l, hl, el⟩ := at_of j hyq
    rw [Nat.add_comm] at ek el
    have hkl : k ≤ l := by
      have a1 := hat k hk
      have a2 := hat l hl
      rw [ek] at a1
      rw [el] at a2
      omega
    have hk1 : 1 ≤ k := by
      refine Nat.pos_of_ne_zero fun z => hne ?_
      rw [← ek, z, Nat.zero_add, Nat.mod_eq_of_lt hj]
    have hb := h2 k hk1
    have hlen : k < lnF (trn q e j) := by
      have : (trn q e j).testBit l = true := by rw [trn_bit hj he, decide_eq_true hl, Bool.true_and, el]; exact hy
      have := ln_bit this
      omega
    rw [Nat.testBit_and, Nat.testBit_xor, Nat.testBit_two_pow_sub_one, decide_eq_true hlen, Bool.and_true, trn_bit hj he, trn_bit hj hd, decide_eq_true hk, Bool.true_and, Bool.true_and, ek] at hb
    cases h3 : e.testBit x <;> cases h4 : d.testBit x <;> rw [h3, h4] at hb <;> first | rfl | cases hb
  · rintro ⟨h1, h2⟩
    refine ⟨h1, fun k hk => ?_⟩
    rw [Nat.testBit_and, Nat.testBit_xor, Nat.testBit_two_pow_sub_one]
    by_cases hlen : k < lnF (trn q e j)
    · have hne : trn q e j ≠ 0 := fun z => by
        rw [z] at hlen
        exact absurd hlen (by show ¬ k < 0; omega)
      have ht := ln_top hne
      have htq : lnF (trn q e j) - 1 < q := by
        rw [trn_bit hj he] at ht
        exact of_decide_eq_true (Bool.and_eq_true_iff.mp ht).1
      rw [trn_bit hj he, decide_eq_true htq, Bool.true_and] at ht
      have hkq : k < q := by omega
      have hxy := h2 ((k + j) % q) ((lnF (trn q e j) - 1 + j) % q) (Nat.mod_lt _ hq) ht (by rw [hat k hkq, hat _ htq]; omega) (fun z => by
        have := hat k hkq
        rw [z, ar_self] at this
        omega)
      rw [trn_bit hj he, trn_bit hj hd, decide_eq_true hkq, Bool.true_and, Bool.true_and, hxy, Bool.xor_self, Bool.false_and]
    · rw [decide_eq_false hlen, Bool.and_false]
/-- the least bit -/
def fpF (n : Nat) : Nat := (((List.range (lnF n)).filter fun k => n.testBit k).head?).getD 0
theorem fp_is {n : Nat} (h0 : n ≠ 0) : n.testBit (fpF n) = true ∧ ∀ k, n.testBit k = true → fpF n ≤ k := by
  unfold fpF
  have hm : lnF n - 1 ∈ (List.range (lnF n)).filter fun k => n.testBit k := List.mem_filter.mpr ⟨List.mem_range.mpr (by have := ln_bit (ln_top h0); omega), ln_top h0⟩
  have hs : ((List.range (lnF n)).filter fun k => n.testBit k).Pairwise (· < ·) := List.Pairwise.filter _ List.pairwise_lt_range
  cases e : (List.range (lnF n)).filter fun k => n.testBit k with
  | nil => rw [e] at hm; exact absurd hm List.not_mem_nil
  | cons a l =>
    have ha : a ∈ (List.range (lnF n)).filter fun k => n.testBit k := by rw [e]; exact List.mem_cons_self
    refine ⟨(List.mem_filter.mp ha).2, fun k hk => ?_⟩
    have hk2 : k ∈ (List.range (lnF n)).filter fun k => n.testBit k := List.mem_filter.mpr ⟨List.mem_range.mpr (ln_bit hk), hk⟩
    rw [e] at hk2 hs
    show a ≤ k
    rcases List.mem_cons.mp hk2 with h | h
    · omega
    · have := (List.pairwise_cons.mp hs).1 k h
      omega
def otF (q d e : Nat) : Option Nat := if e ^^^ (d &&& e) ≠ 0 then some (lnF (e ^^^ (d &&& e)) - 1) else if e = 0 ∨ d ^^^ (d &&& e) = 0 then none
  else some ((lnF (d ^^^ (d &&& e)) - 1 + fpF (trn q e (lnF (d ^^^ (d &&& e)) - 1))) % q)
def thF (q d e : Nat) : Option Nat := match otF q d e with
  | none => none
  | some j => if iwF q d e j = true then some j else none
theorem bey_bit {d e x : Nat} : (e ^^^ (d &&& e)).testBit x = (e.testBit x && !d.testBit x) := by
  rw [Nat.testBit_xor, Nat.testBit_and]
  cases e.testBit x <;> cases d.testBit x <;> rfl
theorem lac_bit {d e x : Nat} : (d ^^^ (d &&& e)).testBit x = (d.testBit x && !e.testBit x) := by
  rw [Nat.testBit_xor, Nat.testBit_and]
  cases e.testBit x <;> cases d.testBit x <;> rfl
theorem ot_lt {q d e j : Nat} (hq : 0 < q) (he : e < 2 ^ q) (h : otF q d e = some j) : j < q ∧ e ≠ d := by
  unfold otF at h
  by_cases b : e ^^^ (d &&& e) ≠ 0
  · rw [if_pos b] at h
    have h := Option.some.inj h
    have ht := ln_top b
    rw [h, bey_bit] at ht
    obtain ⟨h1, h2⟩ := Bool.and_eq_true_iff.mp ht
    refine ⟨lt_of_bit he h1, fun z => ?_⟩
    rw [z] at h1
    rw [h1] at h2
    cases h2
  · rw [if_neg b] at h
    by_cases c : e = 0 ∨ d ^^^ (d &&& e) = 0
    · rw [if_pos c] at h
      cases h
    · rw [if_neg c] at h
      have h := Option.some.inj h
      refine ⟨by rw [← h]; exact Nat.mod_lt _ hq, fun z => c (.inr ?_)⟩
      rw [z, Nat.and_self, Nat.xor_self]
theorem ot_is {q d e j : Nat} (hj : j < q) (hd : d < 2 ^ q) (he : e < 2 ^ q) (ho : OnW q d e j) (hne : e ≠ d) : otF q d e = some j := by
  have hq : 0 < q := by omega
  obtain ⟨h1, h2⟩ := ho
  have sub : ∀ x, e.testBit x = true → x ≠ j → d.testBit x = true := fun x hx hn => by
    rw [← h2 x x (lt_of_bit he hx) hx (Int.le_refl _) hn]
    exact hx
  unfold otF
  by_cases b : e ^^^ (d &&& e) ≠ 0
  · rw [if_pos b]
    have ht := ln_top b
    rw [bey_bit] at ht
    obtain ⟨a1, a2⟩ := Bool.and_eq_true_iff.mp ht
    congr 1
    refine Classical.byContradiction fun z => ?_
    rw [sub _ a1 z] at a2
    cases a2
  · have b : e ^^^ (d &&& e) = 0 := Classical.byContradiction b
    rw [if_neg (fun z => z b)]
    have hjd : d.testBit j = true := by
      have : (e ^^^ (d &&& e)).testBit j = false := by rw [b, Nat.zero_testBit]
      rw [bey_bit, h1] at this
      cases h3 : d.testBit j with
      | true => rfl
      | false => rw [h3] at this; cases this
    have all : ∀ x, e.testBit x = true → d.testBit x = true := fun x hx => by
      by_cases z : x = j
      · rw [z]
        exact hjd
      · exact sub x hx z
    have hl : d ^^^ (d &&& e) ≠ 0 := fun z => hne (Nat.eq_of_testBit_eq fun x => by
      have hx : (d ^^^ (d &&& e)).testBit x = false := by rw [z, Nat.zero_testBit]
      rw [lac_bit] at hx
      cases h3 : e.testBit x with
      | true => exact (all x h3).symm
      | false =>
        rw [h3] at hx
        cases h4 : d.testBit x with
        | false => rfl
        | true => rw [h4] at hx; cases hx)
    have he0 : e ≠ 0 := fun z => by rw [z, Nat.zero_testBit] at h1; cases h1
    rw [if_neg (fun z => z.elim he0 hl)]
    have hg := ln_top hl
    generalize lnF (d ^^^ (d &&& e)) - 1 = g at hg
    rw [lac_bit] at hg
    obtain ⟨g1, g2⟩ := Bool.and_eq_true_iff.mp hg
    have hgq := lt_of_bit hd g1
    have hge : e.testBit g = false := by
      cases h3 : e.testBit g with
      | false => rfl
      | true => rw [h3] at g2; cases g2
    -- all of e lies nearer than g
    have near : ∀ y, e.testBit y = true → ar q j y < ar q j g := fun y hy => by
      refine Classical.byContradiction fun z => ?_
      have hgj : g ≠ j := fun w => by rw [w, h1] at hge; cases hge
      have := h2 g y hgq hy (by omega) hgj
      rw [hge, g1] at this
      cases this
    have hn0 : trn q e g ≠ 0 := fun z => by
      obtain ⟨k, hk, ek⟩ := at_of g hj
      have : (trn q e g).testBit k = true := by rw [trn_bit hgq he, decide_eq_true hk, Bool.true_and, Nat.add_comm, ek]; exact h1
      rw [z, Nat.zero_testBit] at this
      cases this
    obtain ⟨f1, f2⟩ := fp_is hn0
    have fq : fpF (trn q e g) < q := by
      rw [trn_bit hgq he] at f1
      exact of_decide_eq_true (Bool.and_eq_true_iff.mp f1).1
    rw [trn_bit hgq he, decide_eq_true fq, Bool.true_and] at f1
    obtain ⟨k, hk, ek⟩ := at_of g hj
    have hkj : (trn q e g).testBit k = true := by rw [trn_bit hgq he, decide_eq_true hk, Bool.true_and, Nat.add_comm, ek]; exact h1
    have hle := f2 k hkj
    generalize fpF (trn q e g) = m at f1 f2 fq hle
    congr 1
    rw [Nat.add_comm m g] at f1
    -- the first of e behind g is j
    refine Classical.byContradiction fun z => ?_
    have n1 := near _ f1
    have hmk : m < k := by
      refine Nat.lt_of_le_of_ne hle fun w => z ?_
      rw [w]
      exact ek
    have a1 := ar_at (q := q) (i := k) g hk
    rw [ek] at a1
    have a2 := ar_at (q := q) (i := m) g fq
    -- arcs from j
    have e1 : ar q j g = (q : Int) - k ∨ k = 0 := by
      by_cases k0 : k = 0
      · exact .inr k0
      · refine .inl ?_
        have : ar q ((g + k) % q) ((g + k + (q - k)) % q) = ((q - k : Nat) : Int) := by
          have := ar_at (q := q) (i := q - k) ((g + k) % q) (by omega)
          rw [Nat.mod_add_mod] at this
          exact this
        rw [ek, show g + k + (q - k) = g + q by omega, Nat.add_mod_right, Nat.mod_eq_of_lt hgq] at this
        omega
    have e2 : ar q j ((g + m) % q) = (q : Int) - k + m := by
      have hkm : k - m ≤ q := by omega
      have : ar q ((g + k) % q) ((g + k + (q - (k - m))) % q) = ((q - (k - m) : Nat) : Int) := by
        have := ar_at (q := q) (i := q - (k - m)) ((g + k) % q) (by omega)
        rw [Nat.mod_add_mod] at this
        exact this
      rw [ek, show g + k + (q - (k - m)) = g + m + q by omega, Nat.add_mod_right] at this
      rw [this]
      omega
    rcases e1 with e1 | e1
    · rw [e2, e1] at n1
      omega
    · omega
theorem th_iff {q d e j : Nat} (hq : 0 < q) (hd : d < 2 ^ q) (he : e < 2 ^ q) : thF q d e = some j ↔ j < q ∧ Bt q d j e := by
  unfold thF
  constructor
  · intro h
    cases z : otF q d e with
    | none => rw [z] at h; cases h
    | some k =>
      rw [z] at h
      obtain ⟨hk, hne⟩ := ot_lt hq he z
      have h : (if iwF q d e k = true then some k else none) = some j := h
      by_cases c : iwF q d e k = true
      · rw [if_pos c] at h
        have h := Option.some.inj h
        subst h
        exact ⟨hk, (bt_iff hk hd he).mpr ⟨(iw_iff hk hd he).mp c, hne⟩⟩
      · rw [if_neg c] at h
        cases h
  · rintro ⟨hj, hb⟩
    obtain ⟨ho, hne⟩ := (bt_iff hj hd he).mp hb
    rw [ot_is hj hd he ho hne]
    show (if iwF q d e j = true then some j else none) = some j
    rw [if_pos ((iw_iff hj hd he).mpr ho)]
end Bf
namespace Bf
open PySem PySem.Spec PyProof.Rows L2 LamX NdefX
theorem op_andN {X : Cx} : OpR X (binaryOp .BitAnd) (fun x y H Q => ∃ n m : Nat, x = .int (n : Int) ∧ y = .int (m : Int) ∧ Q (.int ((n &&& m : Nat) : Int)) H) := by
  intro pins s σ H x y v u Q I rx ry h
  obtain ⟨n, m, rfl, rfl, q⟩ := h
  refine op_and pins s σ H _ _ v u Q I rx ry ⟨(n : Int), (m : Int), rfl, rfl, ?_⟩
  show Q (.int (Builtin.bitAnd (n : Int) (m : Int))) H
  unfold Builtin.bitAnd
  rw [decide_eq_true (Int.natCast_nonneg n), decide_eq_true (Int.natCast_nonneg m)]
  exact q
theorem op_shlN {X : Cx} : OpR X (binaryOp .LShift) (fun x y H Q => ∃ n k : Nat, x = .int (n : Int) ∧ y = .int (k : Int) ∧ n < 2 ^ 64 ∧ k ≤ 1000000 ∧ Q (.int ((n <<< k : Nat) : Int)) H) := by
  intro pins s σ H x y v u Q I rx ry h
  obtain ⟨n, k, rfl, rfl, hn, hk, q⟩ := h
  refine op_shl pins s σ H _ _ v u Q I rx ry ⟨(n : Int), (k : Int), rfl, rfl, ⟨by omega, by omega, by simpa using hn⟩, ?_⟩
  rw [Nat.shiftLeft_eq] at q
  show Q (.int ((n : Int) * 2 ^ (k : Int).toNat)) H
  rw [Int.toNat_natCast]
  have e : ((n * 2 ^ k : Nat) : Int) = (n : Int) * 2 ^ k := by rw [Int.natCast_mul, Int.natCast_pow]; rfl
  rw [e] at q
  exact q
theorem low_eq {n : Nat} (h0 : n ≠ 0) : n - (n &&& (n - 1)) = 2 ^ fpF n := by
  obtain ⟨h1, h2⟩ := fp_is h0
  generalize fpF n = k at h1 h2
  -- n = 2 ^ (k + 1) * a + 2 ^ k
  have hb : n % 2 ^ (k + 1) = 2 ^ k := by
    refine Nat.eq_of_testBit_eq fun x => ?_
    rw [Nat.testBit_mod_two_pow, Nat.testBit_two_pow]
    by_cases hx : k = x
    · subst hx
      rw [decide_eq_true (Nat.lt_succ_self k), h1, decide_eq_true rfl]
      rfl
    · rw [decide_eq_false hx]
      by_cases hl : x < k + 1
      · rw [decide_eq_true hl, Bool.true_and]
        cases b : n.testBit x with
        | false => rfl
        | true => have := h2 x b; omega
      · rw [decide_eq_false hl, Bool.false_and]
  have hn : n = 2 ^ (k + 1) * (n / 2 ^ (k + 1)) + 2 ^ k := by
    have := Nat.div_add_mod n (2 ^ (k + 1))
    rw [hb] at this
    exact this.symm
  generalize n / 2 ^ (k + 1) = a at hn
  have hp : 0 < 2 ^ k := Nat.two_pow_pos k
  have hlt : 2 ^ k < 2 ^ (k + 1) := Nat.pow_lt_pow_right (by decide) (by omega)
  have hn1 : n - 1 = 2 ^ (k + 1) * a + (2 ^ k - 1) := by omega
  have hand : n &&& (n - 1) = 2 ^ (k + 1) * a := by
    refine Nat.eq_of_testBit_eq fun x => ?_
    rw [Nat.testBit_and, hn1, hn, Nat.testBit_two_pow_mul_add _ hlt, Nat.testBit_two_pow_mul_add _ (by omega), Nat.testBit_two_pow_mul, Nat.testBit_two_pow, Nat.testBit_two_pow_sub_one]
    by_cases hx : x < k + 1
    · rw [if_pos hx, if_pos hx, decide_eq_false (show ¬ x ≥ k + 1 by omega), Bool.false_and]
      by_cases hk : k = x
      · rw [decide_eq_false (show ¬ x < k by omega), Bool.and_false]
      · rw [decide_eq_false hk, Bool.false_and]
    · rw [if_neg hx, if_neg hx, decide_eq_true (show x ≥ k + 1 by omega), Bool.true_and, Bool.and_self]
  omega
theorem bits_nat (n : Nat) : Builtin.Int.intBits (n : Int) = lnF n := by
  unfold Builtin.Int.intBits lnF
  by_cases e : n = 0
  · subst e
    rfl
  · rw [if_neg e]
    simp [e]
theorem ln_pow (k : Nat) : lnF (2 ^ k) = k + 1 := by
  unfold lnF
  rw [if_neg (Nat.ne_of_gt (Nat.two_pow_pos k)), Nat.log2_two_pow]
theorem and_neg {n : Nat} (h0 : n ≠ 0) : Builtin.bitAnd (n : Int) (-(n : Int)) = ((2 ^ fpF n : Nat) : Int) := by
  unfold Builtin.bitAnd
  rw [decide_eq_true (Int.natCast_nonneg n), decide_eq_false (show ¬ (0 : Int) ≤ -(n : Int) by omega)]
  show (n : Int) - (((n : Int).toNat &&& (Builtin.bitNot (-(n : Int))).toNat : Nat) : Int) = _
  have e : (Builtin.bitNot (-(n : Int))).toNat = n - 1 := by
    unfold Builtin.bitNot
    omega
  rw [e, Int.toNat_natCast, ← low_eq h0]
  have := Nat.and_le_left (n := n) (m := n - 1)
  omega
end Bf
namespace Bf
open PySem PySem.Spec PyProof.Rows L2
/-! ### set(xs) of a list of whole numbers -/
section
variable {P : Program} {w : World} {A : Around} {E : Value → Shared → Prop} {s : Shared}
abbrev bare (w : World) : Obj := { cls := .type "set", dict := none, data := .set #[] 0 (.fresh 0 0 (!w.params.followText "set-order")) }
abbrev withBare (w : World) (s : Shared) : Shared := { s with heap := s.heap.push (bare w) }
/-- what the filling leaves: S holds just the numbers, all else stands -/
structure Filled (w : World) (S : Addr) (ns : List Int) (s s' : Shared) : Prop where
  set : ∃ c, c ≤ ns.length ∧ SetR w s'.heap S (fun j => decide (j ∈ ns)) c
  keep : ∀ b o, b ≠ S → s.heap.get? b = some o → s'.heap.get? b = some o
  gens : s'.gens = s.gens
  drawn : s'.drawn = s.drawn
  os : s'.os = s.os
theorem fill_loop {S l I : Addr} {items : Array Value} {ns : List Int} {R : Result → Shared → Prop} (hh : A.in1.handled = none) (hne : l ≠ I) (hS : S ≠ I) (hSl : S ≠ l) (hit : IntsAre items.toList ns) (hb : ns.length + 1 < scanBound)
    (st : s.heap.IsListIter I l 0) (hl : s.heap.IsList l items) (h0 : s.heap.get? S = some (bare w))
    (h : ∀ s', (∃ c, c ≤ ns.length ∧ SetR w s'.heap S (fun j => decide (j ∈ ns)) c) → (∀ b o, b ≠ S → b ≠ I → s.heap.get? b = some o → s'.heap.get? b = some o) → s'.gens = s.gens → s'.drawn = s.drawn → s'.os = s.os → R (.ok (.ret .none)) s') :
    codeAny (model P w) A (.builtin "set.update.loop" ⟨[.ref S, .ref I], []⟩) R s := by
  have hn : items.size = ns.length := by
    have e := IntsAre.length hit
    rw [Array.length_toList] at e
    exact e
  refine L2.set_update_ints ((Walks.list hh I l hne items).toS) S (by simp [hS, hSl]) ns hn hb (fun i v hv => ?_) (items.size - 0) 0 s rfl (Nat.zero_le _) ⟨st, hl⟩ ⟨0, Nat.le_refl 0, L2.setR_new_at h0⟩ fun s' c hm hc hR => ?_
  · have hi : i < ns.length := by
      rw [← hn]
      exact (Array.getElem?_eq_some_iff.mp hv).1
    obtain ⟨t, e⟩ := IntsAre.int_at hit i v (by rw [Array.getElem?_toList]; exact hv)
    refine ⟨ns[i], t, List.getElem?_eq_getElem hi, ?_⟩
    rw [e, List.getD_eq_getElem?_getD, List.getElem?_eq_getElem hi] <;> rfl
  · exact h s' ⟨c, by omega, hR⟩ (fun b o h1 h2 e => hm.heap b o (by simp [h1, h2]) e) hm.gens hm.drawn hm.os
theorem fill_init {S l : Addr} {items : Array Value} {ns : List Int} {Q : PySem.Fin → Shared → Prop} (hh : A.handled = none) (hSl : S ≠ l) (hS : s.heap.get? S = some (bare w)) (hl : s.heap.IsList l items) (hit : IntsAre items.toList ns) (hb : ns.length + 1 < scanBound)
    (h : ∀ s', Filled w S ns s s' → Q (.done (.ret .none)) s') : wpAny (model P w) A (Builtin.«set.__init__» ⟨[.ref S, .ref l], []⟩) Q E s := by
  obtain ⟨⟨oc, od, dat, sl⟩, hol, hcl, nl, hdl⟩ := id hl
  dsimp only at hcl hdl
  subst hcl hdl
  have n1 := PySem.F.sub_list_set
  have n2 := PySem.F.sub_list_frozenset
  have n3 : (Value.type "list" == Value.type "dict") = false := by decide
  have n4 := sub_set_self
  have hSlt := Heap.lt_size hS
  have hllt := Heap.lt_size hol
  unfold Builtin.«set.__init__» noKeywords Builtin.Frozenset.updateFrom
  generalize hPI : pyIter = PI
  wp_walk
  subst hPI
  refine wpAny_pyIter_list hl (wpAny_bind (wpAny_runValue ?_))
  refine fill_loop (l := l) (items := items) (ns := ns) (by simp [hh]) (Nat.ne_of_lt hllt) (Nat.ne_of_lt hSlt) hSl hit hb ⟨_, Heap.get?_push_size _ rfl, rfl, rfl⟩ (hl.push _) (Heap.get?_push_of_some _ hS) fun s' h1 h2 h3 h4 h5 => ?_
  refine wpAny_pure (wpAny_pure (h s' ⟨h1, fun b o hbS e => ?_, h3, h4, h5⟩))
  exact h2 b o hbS (Nat.ne_of_lt (Heap.lt_size e)) (Heap.get?_push_of_some _ e)
theorem set_call {l : Addr} {items : Array Value} {ns : List Int} {Q : Value → Shared → Prop} (hh : A.handled = none) (hl : s.heap.IsList l items) (hit : IntsAre items.toList ns) (hb : ns.length + 1 < scanBound)
    (h : ∀ s', Filled w s.heap.objs.size ns (withBare w s) s' → Q (.ref s.heap.objs.size) s') : wpAny (model P w) A (call (.type "set") [.ref l]) Q E s := by
  obtain ⟨ol, hol, _⟩ := id hl
  have hlt := Heap.lt_size hol
  have m1 := PySem.F.called_set.mro
  obtain ⟨c, tl, hmro⟩ := m1
  have m2 := PySem.F.called_set.made
  have m3 := PySem.F.called_set.sub
  have m4 := PySem.F.called_set.notType
  have m5 := PySem.F.called_set.canCreate
  have m6 := PySem.F.typeCall_set_1 (.ref l)
  have m7 := PySem.F.called_set.init.lookup
  have m8 := PySem.F.called_set.init.bind (.ref s.heap.objs.size)
  have hS : (withBare w s).heap.get? s.heap.objs.size = some (bare w) := Heap.get?_push_size _ rfl
  have hT : Shared.TypeIs (withBare w s) (.ref s.heap.objs.size) "set" := ⟨_, hS, rfl⟩
  refine wpAny_call (codeAny_of_tree (wpAny_pure ⟨Code.quiet_builtin _ (by decide +kernel), codeAny_builtin PySem.F.entry_type_call ?_⟩))
  rw [Around.under_plain (weight_type_call_type "set" [.ref l] []) rfl]
  repeat (any_goals (first | assumption | wp_step))
  refine codeAny_mono (L2.code_set_led1 (.ref l) (E := E) (Q₁ := fun obj s₁ => obj = .ref s.heap.objs.size ∧ s₁ = withBare w s) ⟨rfl, rfl⟩) fun r s₁ hr => ?_
  match r, s₁, hr with
  | .ok (.ret _), _, ⟨rfl, rfl⟩ =>
    repeat (any_goals (first | assumption | wp_step))
    refine codeAny_mono (codeAny_call_builtin (R := wants (fun r s₂ => r = .none ∧ Filled w s.heap.objs.size ns (withBare w s) s₂) E) PySem.F.called_set.init.plain PySem.F.entry_set_init (check_set_init_1 hT ?_)) fun r₂ s₂ hr₂ => ?_
    · exact fill_init (by simp [hh]) (Nat.ne_of_gt hlt) hS (hl.push _) hit hb fun s' hf => ⟨rfl, hf⟩
    · match r₂, s₂, hr₂ with
      | .ok (.ret _), _, ⟨rfl, hf⟩ =>
        repeat (any_goals (first | assumption | wp_step))
        exact h _ hf
      | .error e, _, hr₂ => exact hr₂
  | .error e, _, hr => exact hr
end
def rSetL (K : PySem.W.Frag) (w : World) : List V → Hp → VK → Prop := fun xs H Q => ∃ (l : Addr) (ns : List Int), xs = [.ref l] ∧ SqL K H l (ns.map V.int) ∧ ns.length ≤ 1000 ∧ ∀ a c, H a = none → c ≤ ns.length → Q (.ref a) (upd H a (SetO w a (fun j => decide (j ∈ ns)) c))
theorem cr_setL {X : Cx} (hc : X.calm = true) : CallR X (.type "set") (rSetL X.K X.w) := by
  intro pins s σ H xs us Q I r h
  obtain ⟨l, ns, rfl, hq, hn, q⟩ := h
  obtain ⟨u, rfl, ru⟩ := vals1 r
  cases ru
  obtain ⟨its, rv, pl, hz⟩ := I.list hq
  refine set_call (I.ok.hd hc) pl.isList (by simpa using RZ.intsAre_vals rv) (by unfold scanBound; omega) fun s' hf => ?_
  obtain ⟨⟨c, hc1, hR⟩, hk, e1, e2, e3⟩ := hf
  obtain ⟨h', g', d', t', o'⟩ := s'
  dsimp only at hR hk e1 e2 e3
  subst e1 e2 e3
  exact ⟨.ref _, upd H s.heap.objs.size (SetO X.w s.heap.objs.size (fun j => decide (j ∈ ns)) c), I.laid (t' := t') (fun b u e => hk b u (Nat.ne_of_lt (Heap.lt_size e)) (Heap.get?_push_of_some _ e)) (Nat.le_refl _) (setO_new hR), rfl, q _ c (I.hok.fresh (Nat.le_refl _)) hc1⟩
end Bf
namespace Bf
open PySem PySem.Spec PyProof.Rows L2 LamX NdefX
/-! ### set of a tuple of whole numbers, sorted -/
def rSetU (K : PySem.W.Frag) (w : World) : List V → Hp → VK → Prop := fun xs H Q => ∃ (l : Addr) (ns : List Int), xs = [.ref l] ∧ SqT K H l (ns.map V.int) ∧ ns.length ≤ 1000 ∧ ∀ a c, H a = none → c ≤ ns.length → Q (.ref a) (upd H a (SetO w a (fun j => decide (j ∈ ns)) c))
theorem cr_setU {X : Cx} (hc : X.calm = true) : CallR X (.type "set") (rSetU X.K X.w) := by
  intro pins s σ H xs us Q I r h
  obtain ⟨l, ns, rfl, hq, hn, q⟩ := h
  obtain ⟨u, rfl, ru⟩ := vals1 r
  cases ru
  obtain ⟨its, rv, pl, hz⟩ := I.tuple hq
  refine L2.call_set_tupI ns (I.ok.hd hc) pl (by simpa using RZ.intsAre_vals rv) (by unfold scanBound; omega) fun h' tk c hR hc1 hk => ?_
  exact ⟨.ref _, upd H s.heap.objs.size (SetO X.w s.heap.objs.size (fun j => decide (j ∈ ns)) c), I.laid (t' := tk) (fun b u e => hk b u e) (Nat.le_refl _) (setO_new hR), rfl, q _ c (I.hok.fresh (Nat.le_refl _)) hc1⟩
theorem set_rise {ns : List Int} {L : List Nat} (hpw : ns.Pairwise (· < ·)) (hmem : ∀ k : Int, k ∈ ns ↔ decide (k ∈ L.map fun (n : Nat) => (n : Int)) = true) : ∃ zs : List Nat, ns = zs.map (fun (n : Nat) => (n : Int)) ∧ zs.Pairwise (· < ·) ∧ ∀ z, z ∈ zs ↔ z ∈ L := by
  have ens : ns = (ns.map Int.toNat).map fun (n : Nat) => (n : Int) := by
    rw [List.map_map]
    conv => lhs; rw [← List.map_id ns]
    refine List.map_congr_left fun x hx => ?_
    obtain ⟨y, _, rfl⟩ := List.mem_map.mp (of_decide_eq_true ((hmem x).mp hx))
    rfl
  generalize ns.map Int.toNat = zs at ens
  subst ens
  refine ⟨zs, rfl, ?_, fun z => ?_⟩
  · rw [List.pairwise_map] at hpw
    exact hpw.imp fun {a b} h => by omega
  · have h1 : ((z : Int) ∈ zs.map fun (n : Nat) => (n : Int)) ↔ z ∈ zs := ⟨fun h => by
      obtain ⟨y, hy, e⟩ := List.mem_map.mp h
      have : y = z := Int.ofNat.inj e
      rw [← this]
      exact hy, fun h => List.mem_map.mpr ⟨z, h, rfl⟩⟩
    have h2 : ((z : Int) ∈ L.map fun (n : Nat) => (n : Int)) ↔ z ∈ L := ⟨fun h => by
      obtain ⟨y, hy, e⟩ := List.mem_map.mp h
      have : y = z := Int.ofNat.inj e
      rw [← this]
      exact hy, fun h => List.mem_map.mpr ⟨z, h, rfl⟩⟩
    rw [← h1, hmem, decide_eq_true_iff, h2]
/-! ### the hands between -/
def mid (q h s j : Nat) : List Nat := (wl s (cl q (h ^^^ s) j)).tail.dropLast
theorem mid_mem {q h s j o : Nat} : o ∈ mid q h s j ↔ Bt q (h ^^^ s) j (o ^^^ s) := by
  unfold mid Bt
  generalize cl q (h ^^^ s) j = ks
  have e : (wl s ks).tail.dropLast = ((List.range (ks.length + 1)).tail.dropLast).map fun i => wf s (ks.take i) := by
    unfold wl
    rw [← List.map_tail, ← List.map_dropLast]
  have er : ∀ i, i ∈ (List.range (ks.length + 1)).tail.dropLast ↔ 1 ≤ i ∧ i < ks.length := fun i => by
    rw [List.range_succ_eq_map, List.tail_cons]
    cases hn : ks.length with
    | zero =>
      constructor
      · intro h
        exact absurd h List.not_mem_nil
      · intro h
        omega
    | succ n =>
      rw [List.range_succ, List.map_append, List.map_cons, List.map_nil, List.dropLast_concat, List.mem_map]
      constructor
      · rintro ⟨a, ha, rfl⟩
        rw [List.mem_range] at ha
        omega
      · rintro ⟨h1, h2⟩
        exact ⟨i - 1, List.mem_range.mpr (by omega), by omega⟩
  rw [e, List.mem_map]
  constructor
  · rintro ⟨i, hi, rfl⟩
    obtain ⟨h1, h2⟩ := (er i).mp hi
    refine ⟨i, h1, h2, ?_⟩
    rw [wf_xor (ks.take i) s, Nat.xor_comm s, Nat.xor_assoc, Nat.xor_self, Nat.xor_zero]
  · rintro ⟨i, h1, h2, h3⟩
    refine ⟨i, (er i).mpr ⟨h1, h2⟩, ?_⟩
    rw [wf_xor, h3, Nat.xor_comm, Nat.xor_assoc, Nat.xor_self, Nat.xor_zero]
theorem bt_end {q d j : Nat} (hj : j < q) (hd : d < 2 ^ q) : ¬ Bt q d j 0 ∧ ¬ Bt q d j d := by
  constructor
  · intro h
    have := ((bt_iff hj hd (Nat.two_pow_pos q)).mp h).1.1
    rw [Nat.zero_testBit] at this
    cases this
  · intro h
    exact ((bt_iff hj hd hd).mp h).2 rfl
theorem nodup_le : ∀ {l m : List Nat}, l.Nodup → (∀ x ∈ l, x ∈ m) → l.length ≤ m.length
  | [], m, _, _ => Nat.zero_le _
  | a :: l, m, nd, h => by
    obtain ⟨n1, n2⟩ := List.nodup_cons.mp nd
    have ha : a ∈ m := h a List.mem_cons_self
    have := nodup_le (l := l) (m := m.erase a) n2 fun x hx => (List.mem_erase_of_ne (fun (e : x = a) => n1 (e ▸ hx))).mpr (h x (List.mem_cons_of_mem a hx))
    rw [List.length_erase_of_mem ha] at this
    have := List.length_pos_of_mem ha
    rw [List.length_cons]
    omega
end Bf
namespace Bf
open PySem PySem.Spec PyProof.Rows L2
def topS (i : Nat) : Stmt := PySem.Challenge.pw_beatferry_k33_trees_that_came.main.body.getD i (.Pass ⟨0, 0, 0, 0⟩)
abbrev sSp : Stmt := topS 1
abbrev sTh : Stmt := topS 2
abbrev sOt : Stmt := topS 3
abbrev sIw : Stmt := topS 4
abbrev sTu : Stmt := topS 5
abbrev sFp : Stmt := topS 6
abbrev sLp : Stmt := topS 7
abbrev sCm : Stmt := topS 9
abbrev sPot : Stmt := topS 11
abbrev sTake : Stmt := topS 12
abbrev sOf : Stmt := topS 13
abbrev sRo : Stmt := topS 14
abbrev sRd : Stmt := topS 15
abbrev sSo : Stmt := topS 16
abbrev sWi : Stmt := topS 17
abbrev sHn : Stmt := topS 18
abbrev sOr : Stmt := topS 19
abbrev sSh : Stmt := topS 20
abbrev sRi : Stmt := topS 21
abbrev sLaw : Stmt := topS 22
theorem scPot : FnScope ["_law_script", "_law_nth", "_law_cell", "_law_great", "_law_mixed"] ["_law_script", "_law_nth"] (defScope sPot) := ⟨rfl, rfl, rfl, by decide +kernel, rfl, by decide +kernel, by decide +kernel⟩
theorem scTake : FnScope ["_law_pot", "_law_size", "_law_digit", "_law_primes", "_law_prime", "_law_drawn", "_law_last"] ["_law_pot", "_law_size"] (defScope sTake) := ⟨rfl, rfl, rfl, by decide +kernel, rfl, by decide +kernel, by decide +kernel⟩
section
variable {P : Program} {w : World} {K : PySem.W.Frag} {mg : Str → Option Value} {base : Heap} {f fT fO fF : Addr} {fd fdT fdO fdF : FuncData} {k : Nat}
/-! ### pot -/
def spPot (K : PySem.W.Frag) : Sp := fun vs H Q _ => ∃ (a : Addr) (ns : List Int) (k : Nat), vs = [.ref a, .int k] ∧ SqL K H a (ns.map V.int) ∧ ns.length ≤ 63 ∧ k ≤ 100 ∧
  ∀ H' p, Same H H' → H p = none → Pot H' p 0 → Q (.ref p) H'
theorem ok_pot (F : Fun K "_law_urn" "_law_urn" sPot f fd) (ml : mg "len" = none) (ma : mg "abs" = none) (mi : mg "int" = none) : FnOk P w K mg base CX0 (k + 1) f fd ["_law_script", "_law_nth"] (spPot K) := by
  refine F.ok scPot (fun vs H Q E h => ?_) (fun cdv A outer s H vs Q E hr h => ?_)
  · obtain ⟨a, ns, k, rfl, _⟩ := h
    rfl
  · obtain ⟨a, ns, k, rfl, hS, hl, hk, q⟩ := h
    refine ⟨_, pss_cons (ps_set (i := 2) scPot.nd rfl (.inl rfl) (pe_ifExp (pt_cmpR op_lt (pv 1) (pe_callB call_len_seq (by rfl) ml PySem.boot_len (pa_cons (pv 0) pa_nil)) (nomark _)) (pe_ix ix_list (pv 0) (pv 1) (fun _ _ => rfl)) pe_int))
      (pss_cons (ps_set (i := 3) scPot.nd rfl (.inl rfl) (pe_op op_mul (pe_op op_mod (pe_callB call_abs (by rfl) ma (by decide +kernel) (pa_cons (pv 2) pa_nil)) (pe_op op_mulW (pe_op op_mulW (pe_op op_pow pe_int pe_int) (pe_op op_pow pe_int pe_int)) (pe_op op_pow pe_int pe_int)))
        (pe_callTy call_int1 (by rfl) mi (by decide +kernel) (pa_cons (pe_cmpR op_ge (pe_callB call_abs (by rfl) ma (by decide +kernel) (pa_cons (pv 2) pa_nil)) (pe_op op_pow pe_int pe_int) (nomark _)) pa_nil))))
      (pss_cons (ps_set (i := 4) scPot.nd rfl (.inl rfl) (pe_op op_add (pe_op op_add (pe_op op_add (pe_op op_mul (pe_op op_mod (pv 2) pe_int) pe_int) (pe_op op_mul (pe_op op_mul pe_int (pv 1)) (pv 1))) (pe_op op_mul pe_int (pv 1))) pe_int))
      (pss_one (ps_ret (pe_lst (pa_cons (pv 3) (pa_cons (pe_op op_mod (pv 4) pe_int) (pa_cons pe_int pa_nil)))))))), ?_⟩
    have fin : ∀ (x y : Int), 0 ≤ x → 0 ≤ y → y < 2305843009213693952 → ∀ p, H p = none → Q (.ref p) (upd H p (.lst [.int x, .int y, .int 0])) := fun x y h1 h2 h3 p np =>
      q _ p (same_new (Same.refl H) np) np ⟨x, y, 0, upd_same, h1, h2, h3, by omega, by omega⟩
    refine rd_ifI (decide ((k : Int) < ((ns.map V.int).length : Int))) (fun _ => True) ?_ ?_ ?_ ?_
    · exact fun Q' h => ⟨.int k, rfl, .ref a, rfl, a, _, rfl, .inl hS, _, _, rfl, rfl, _, rfl, h⟩
    · intro e
      have z : (k : Int) < ((ns.map V.int).length : Int) := of_decide_eq_true e
      rw [List.length_map] at z
      have z2 : k < ns.length := by omega
      exact ⟨ns[k], trivial, fun Q' h => ⟨.ref a, rfl, .int k, rfl, a, _, _, _, rfl, rfl, hS, atI_nat (j := k) (by rw [List.getElem?_map, List.getElem?_eq_getElem z2]; rfl), h⟩⟩
    · exact fun _ => ⟨0, trivial, fun Q' h => h⟩
    intro c _
    dsimp only [gName, tSeq, tAsg]
    refine ⟨.int c, rfl, c, rfl, _, _, rfl, rfl, ⟨by decide, by decide, by decide⟩, _, _, rfl, rfl, ⟨by decide, by decide, by decide⟩, _, _, rfl, rfl, wide_mul (a := 200) (b := 200) (by decide +kernel) (by decide +kernel) (by decide) (by decide) (by decide), _, _, rfl, rfl, ⟨by decide, by decide, by decide⟩, _, _, rfl, rfl, wide_mul (a := 400) (b := 200) (by decide +kernel) (by decide +kernel) (by decide) (by decide) (by decide), _, _, rfl, rfl, (show (0 : Int) < (10 : Int) ^ (60 : Int).toNat * (10 : Int) ^ (60 : Int).toNat * (10 : Int) ^ (60 : Int).toNat by decide +kernel),
      .int c, rfl, c, rfl, _, _, rfl, rfl, ⟨by decide, by decide, by decide⟩, _, _, rfl, rfl, .inr ⟨_, rfl, ?_⟩⟩
    generalize decide ((10 : Int) ^ (18 : Int).toNat ≤ _) = bb
    have hpos : (0 : Int) ≤ (if c < 0 then -c else c) % ((10 : Int) ^ (60 : Int).toNat * (10 : Int) ^ (60 : Int).toNat * (10 : Int) ^ (60 : Int).toNat) := Int.emod_nonneg _ (by decide +kernel)
    refine ⟨_, _, rfl, rfl, .inr ?_, ?_⟩
    · cases bb <;> exact ⟨by decide, by decide⟩
    have hown : (0 : Int) ≤ (if c < 0 then -c else c) % ((10 : Int) ^ (60 : Int).toNat * (10 : Int) ^ (60 : Int).toNat * (10 : Int) ^ (60 : Int).toNat) * (if bb = true then 1 else 0) := Int.mul_nonneg hpos (by cases bb <;> decide)
    refine ⟨.int c, rfl, _, _, rfl, rfl, (show (0 : Int) < 2305843009213693951 by decide), _, _, rfl, rfl, .inr ⟨by decide, by decide⟩, .int k, rfl, _, _, rfl, rfl, .inl ⟨by decide, by decide⟩, .int k, rfl, _, _, rfl, rfl, .inr ⟨by omega, by omega⟩, _, _, rfl, rfl, .int k, rfl, _, _, rfl, rfl, .inl ⟨by decide, by decide⟩, _, _, rfl, rfl, _, _, rfl, rfl, ?_⟩
    refine ⟨_, rfl, _, rfl, _, _, rfl, rfl, (show (0 : Int) < 2305843009213693921 by decide), (by show 3 ≤ sizeLine; decide), fun p np => ?_⟩
    refine fin _ _ hown ?_ ?_ p np
    · exact Int.emod_nonneg _ (by decide)
    · exact Int.lt_trans (Int.emod_lt_of_pos _ (by decide)) (by decide)
/-! ### take -/
theorem primes8 (n : Int) (h0 : 0 ≤ n) (h : n < 8) : ∃ v : Int, atI [V.int 2147483647, .int 2147483629, .int 2147483587, .int 2147483579, .int 2147483563, .int 2147483549, .int 2147483543, .int 2147483497] n = some (.int v) ∧ 0 < v ∧ v ≤ 2147483647 := by
  obtain ⟨m, rfl⟩ := Int.eq_ofNat_of_zero_le h0
  match m, h with
  | 0, _ => exact ⟨_, rfl, by decide, by decide⟩
  | 1, _ => exact ⟨_, rfl, by decide, by decide⟩
  | 2, _ => exact ⟨_, rfl, by decide, by decide⟩
  | 3, _ => exact ⟨_, rfl, by decide, by decide⟩
  | 4, _ => exact ⟨_, rfl, by decide, by decide⟩
  | 5, _ => exact ⟨_, rfl, by decide, by decide⟩
  | 6, _ => exact ⟨_, rfl, by decide, by decide⟩
  | 7, _ => exact ⟨_, rfl, by decide, by decide⟩
def spTake : Sp := fun vs H Q _ => ∃ (a : Addr) (n m : Nat), vs = [.ref a, .int n] ∧ 0 < n ∧ n < 2305843009213693952 ∧ Pot H a m ∧ m < 100000 ∧ ∀ (r : Nat) H', r < n → Keeps a H H' → Pot H' a (m + 1) → Q (.int r) H'
theorem ok_take (F : Fun K "_law_take" "_law_take" sTake f fd) : FnOk P w K mg base CX0 (k + 1) f fd ["_law_pot", "_law_size"] spTake := by
  refine F.ok scTake (fun vs H Q E h => ?_) (fun cdv A outer s H vs Q E hr h => ?_)
  · obtain ⟨a, n, m, rfl, _⟩ := h
    rfl
  · obtain ⟨a, n, m, rfl, hn, hn2, ⟨x, y, z, hH, hx, hy, hy2, hz, hz2⟩, hm, q⟩ := h
    refine ⟨_, pss_cons (ps_if (pt_cmpR op_gt (pe_ix ix_list (pv 0) pe_int (fun _ _ => rfl)) pe_int (nomark _))
        (pss_cons (ps_set (i := 2) scTake.nd rfl (.inl rfl) (pe_op op_mod (pe_ix ix_list (pv 0) pe_int (fun _ _ => rfl)) (pv 1)))
        (pss_cons (ps_asg (pe_op op_fdivW (pe_ix ix_list (pv 0) pe_int (fun _ _ => rfl)) (pv 1)) (pg_sub (pv 0) pe_int set_list))
        (pss_one (ps_ret (pv 2))))) pss_nil)
      (pss_cons (ps_asg (pe_op op_add (pe_ix ix_list (pv 0) pe_int (fun _ _ => rfl)) pe_int) (pg_sub (pv 0) pe_int set_list))
      (pss_cons (ps_set (i := 3) scTake.nd rfl (.inl rfl) (pe_lst (pa_cons pe_int (pa_cons pe_int (pa_cons pe_int (pa_cons pe_int (pa_cons pe_int (pa_cons pe_int (pa_cons pe_int (pa_cons pe_int pa_nil))))))))))
      (pss_cons (ps_set (i := 4) scTake.nd rfl (.inl rfl) (pe_ix ix_list (pv 3) (pe_op op_mod (pe_ix ix_list (pv 0) pe_int (fun _ _ => rfl)) pe_int) (fun _ _ => rfl)))
      (pss_cons (ps_set (i := 5) scTake.nd rfl (.inl rfl) (pe_op op_add (pe_op op_mod (pe_op op_mod (pe_op op_add (pe_ix ix_list (pv 0) pe_int (fun _ _ => rfl)) (pe_op op_mul (pe_op op_mul pe_int (pe_ix ix_list (pv 0) pe_int (fun _ _ => rfl))) (pe_ix ix_list (pv 0) pe_int (fun _ _ => rfl)))) (pe_op op_mul (pv 4) (pv 4))) (pv 4)) pe_int))
      (pss_cons (ps_set (i := 6) scTake.nd rfl (.inl rfl) (pe_op op_fdiv (pe_op op_mod (pe_op op_mul (pe_op op_mod (pe_op op_mul (pv 5) (pe_op op_add (pe_op op_mod (pv 5) pe_int) (pe_ix ix_list (pv 0) pe_int (fun _ _ => rfl)))) (pv 4)) pe_int) (pv 4)) pe_int))
      (pss_cons (ps_if (pt_cmpR op_gt (pv 1) (pe_op op_pow pe_int pe_int) (nomark _)) (pss_one (ps_set (i := 6) scTake.nd rfl (.inl rfl) (pe_op op_mod (pe_op op_pow (pe_op op_add (pv 6) pe_int) pe_int) (pe_op op_add (pe_op op_pow pe_int pe_int) pe_int)))) pss_nil)
      (pss_one (ps_ret (pe_op op_mod (pv 6) (pv 1)))))))))), ?_⟩
    have hL : SqL K H a [.int x, .int y, .int z] := .inl (.inl hH)
    have hnI : (0 : Int) < (n : Int) := by omega
    refine ⟨.ref a, rfl, a, _, _, .int x, rfl, rfl, hL, rfl, _, _, rfl, rfl, _, rfl, ite2 (fun e => ?_) (fun e => ?_)⟩
    · obtain ⟨r, er, hr2⟩ := nat_of (n := n) (Int.emod_nonneg x (Int.ne_of_gt hnI)) (Int.emod_lt_of_pos x hnI)
      refine ⟨.ref a, rfl, a, _, _, .int x, rfl, rfl, hL, rfl, .int n, rfl, _, _, rfl, rfl, hnI, ?_⟩
      refine ⟨.ref a, rfl, a, _, _, .int x, rfl, rfl, hL, rfl, .int n, rfl, _, _, rfl, rfl, wide_div (b := 61) hnI (by show (n : Int).natAbs < 2305843009213693952; omega) (by decide) (by decide), .ref a, rfl, a, _, _, 0, rfl, rfl, hH, rfl, .int (x % n), rfl, ?_⟩
      rw [er]
      exact q r _ hr2 (Keeps.refl a H).at ⟨x / n, y, z, upd_same, Int.ediv_nonneg hx (Int.le_of_lt hnI), hy, hy2, hz, by omega⟩
    · refine ⟨.ref a, rfl, a, _, _, .int z, rfl, rfl, hL, rfl, _, _, rfl, rfl, .ref a, rfl, a, _, _, 2, rfl, rfl, hH, rfl, (by show 8 ≤ sizeLine; decide), fun p np => ?_⟩
      obtain ⟨v, hv, hv0, hv1⟩ := primes8 ((z + 1) % 8) (Int.emod_nonneg _ (by decide)) (Int.emod_lt_of_pos _ (by decide))
      have hap : a ≠ p := fun e => by
        rw [← e, upd_same] at np
        cases np
      have hL2 : SqL K (upd (upd H a (.lst [.int x, .int y, .int (z + 1)])) p (.lst [V.int 2147483647, .int 2147483629, .int 2147483587, .int 2147483579, .int 2147483563, .int 2147483549, .int 2147483543, .int 2147483497])) a [.int x, .int y, .int (z + 1)] := .inl (.inl (by rw [upd_ne hap, upd_same]))
      refine ⟨.ref p, rfl, .ref a, rfl, a, _, _, .int (z + 1), rfl, rfl, hL2, rfl, _, _, rfl, rfl, (show (0 : Int) < 8 by decide), p, _, _, .int v, rfl, rfl, .inl (.inl upd_same), hv, ?_⟩
      have hv2 : (0 : Int) < v * v := Int.mul_pos hv0 hv0
      refine ⟨.ref a, rfl, a, _, _, .int y, rfl, rfl, hL2, rfl, .ref a, rfl, a, _, _, .int (z + 1), rfl, rfl, hL2, rfl, _, _, rfl, rfl, .inl ⟨by decide, by decide⟩, .ref a, rfl, a, _, _, .int (z + 1), rfl, rfl, hL2, rfl, _, _, rfl, rfl, .inr ⟨by omega, by omega⟩, _, _, rfl, rfl,
        .int v, rfl, .int v, rfl, _, _, rfl, rfl, .inl ⟨by omega, by omega⟩, _, _, rfl, rfl, hv2, .int v, rfl, _, _, rfl, rfl, hv0, _, _, rfl, rfl, ?_⟩
      have mE := Int.emod_nonneg ((y + 69621 * (z + 1) * (z + 1)) % (v * v)) (Int.ne_of_gt hv0)
      have mF := Int.emod_lt_of_pos ((y + 69621 * (z + 1) * (z + 1)) % (v * v)) hv0
      have hw : ∀ w : Int, 0 ≤ w % v ∧ w % v < 2147483648 := fun w => ⟨Int.emod_nonneg _ (Int.ne_of_gt hv0), by
        have := Int.emod_lt_of_pos w hv0
        omega⟩
      refine ⟨_, rfl, _, rfl, _, _, rfl, rfl, (show (0 : Int) < 1009 by decide), .ref a, rfl, a, _, _, .int (z + 1), rfl, rfl, hL2, rfl, _, _, rfl, rfl, _, _, rfl, rfl, .inl ⟨by omega, by omega⟩, .int v, rfl, _, _, rfl, rfl, hv0, _, _, rfl, rfl, .inr ⟨by decide, by decide⟩, .int v, rfl, _, _, rfl, rfl, hv0, _, _, rfl, rfl, ⟨by decide, by decide⟩, ?_⟩
      have hg := hw ((((y + 69621 * (z + 1) * (z + 1)) % (v * v) % v + 1) * (((y + 69621 * (z + 1) * (z + 1)) % (v * v) % v + 1) % 1009 + (z + 1))) % v * 48271)
      dsimp only [gName, tSeq, tAsg]
      refine rd_ifSet (decide ((10 : Int) ^ (7 : Int).toNat < (n : Int))) (fun u H' => H' = upd (upd H a (.lst [.int x, .int y, .int (z + 1)])) p (.lst [V.int 2147483647, .int 2147483629, .int 2147483587, .int 2147483579, .int 2147483563, .int 2147483549, .int 2147483543, .int 2147483497]) ∧ ∃ c : Int, u = .int c) ?_ ?_ ?_ ?_
      · exact fun Q' h => ⟨.int n, rfl, _, _, rfl, rfl, ⟨by decide, by decide, by decide⟩, _, _, rfl, rfl, _, rfl, h⟩
      · intro _ Q' hQ
        exact ⟨_, rfl, _, _, rfl, rfl, _, _, rfl, rfl, ⟨by decide, by decide, by omega⟩, _, _, rfl, rfl, ⟨by decide, by decide, by decide⟩, _, _, rfl, rfl, _, _, rfl, rfl, (show (0 : Int) < (10 : Int) ^ (40 : Int).toNat + 121 by decide +kernel), hQ _ _ ⟨rfl, _, rfl⟩⟩
      · exact fun _ => ⟨_, rfl, rfl, _, rfl⟩
      rintro u H' ⟨rfl, c, rfl⟩
      refine ⟨_, rfl, .int n, rfl, _, _, rfl, rfl, hnI, ?_⟩
      obtain ⟨r, er, hr2⟩ := nat_of (n := n) (Int.emod_nonneg c (Int.ne_of_gt hnI)) (Int.emod_lt_of_pos c hnI)
      show Q (.int (c % n)) _
      rw [er]
      refine q r _ hr2 ((Keeps.refl a H).at.new np) ⟨x, y, z + 1, by rw [upd_ne hap, upd_same], hx, hy, hy2, by omega, by omega⟩
end
/-! ### of -/
section
variable {P : Program} {w : World} {K : PySem.W.Frag} {mg : Str → Option Value} {base : Heap} {f fT fO fF : Addr} {fd fdT fdO fdF : FuncData} {k : Nat}
theorem scOf : FnScope ["_law_pot", "_law_some"] ["_law_pot", "_law_some"] (defScope sOf) := ⟨rfl, rfl, rfl, by decide +kernel, rfl, by decide +kernel, by decide +kernel⟩
def spOf (K : PySem.W.Frag) : Sp := fun vs H Q _ => ∃ (a b : Addr) (xs : List V) (m : Nat), vs = [.ref a, .ref b] ∧ (∀ H', Keeps a H H' → SqL K H' b xs) ∧ 0 < xs.length ∧ xs.length < 1073741824 ∧ Pot H a m ∧ m < 100000 ∧ ∀ v H', v ∈ xs → Keeps a H H' → Pot H' a (m + 1) → Q v H'
theorem ok_of (F : Fun K "_law_of" "_law_of" sOf f fd) (GT : FnOk P w K mg base CX0 1 fT fdT ["_law_pot", "_law_size"] spTake) (kT : PySem.W.keepIn K (.ref fT) = true) (bT : Binds K fdT ["_law_pot", "_law_size"] []) (gT : mg "_law_take" = some (.ref fT)) (ml : mg "len" = none) :
    FnOk P w K mg base CX0 2 f fd ["_law_pot", "_law_some"] (spOf K) := by
  refine F.ok scOf (fun vs H Q E h => ?_) (fun cdv A outer s H vs Q E hr h => ?_)
  · obtain ⟨a, b, xs, m, rfl, _⟩ := h
    rfl
  · obtain ⟨a, b, xs, m, rfl, hS, h0, h1, hp, hm, q⟩ := h
    refine ⟨_, pss_one (ps_ret (pe_ix ix_list (pv 1) (pe_call GT hr (by rfl) gT kT bT .nil pass0 (pa_cons (pv 0) (pa_cons (pe_callB call_len_seq (by rfl) ml PySem.boot_len (pa_cons (pv 1) pa_nil)) pa_nil))) (fun _ _ => rfl))), ?_⟩
    refine ⟨.ref b, rfl, .ref a, rfl, .ref b, rfl, b, xs, rfl, .inl (hS H (Keeps.refl a H)), a, xs.length, m, rfl, h0, by omega, hp, hm, fun r H' hr1 kp hp' => ?_⟩
    refine ⟨b, xs, r, xs[r], rfl, rfl, hS H' kp, atI_nat (List.getElem?_eq_getElem hr1), ?_⟩
    exact q _ H' (List.getElem_mem hr1) kp hp'
end
open LamX NdefX
/-! ### ways apart: spoilt -/
def oVs : Option Nat → V
  | none => .non
  | some n => .int (n : Int)
section
variable {P : Program} {w : World} {K : PySem.W.Frag} {mg : Str → Option Value} {base : Heap} {f fTu fFp fLp fOt fIw fTh : Addr} {fd fdTu fdFp fdLp fdOt fdIw fdTh : FuncData} {k : Nat}
open LamX NdefX
theorem scTu : FnScope ["q", "some", "j", "places", "passed"] ["q", "some", "j"] (defScope sTu) := ⟨rfl, rfl, rfl, by decide +kernel, rfl, by decide +kernel, by decide +kernel⟩
def spTu : Sp := fun vs H Q _ => ∃ q e j : Nat, vs = [.int q, .int e, .int j] ∧ j < q ∧ q ≤ 60 ∧ e < 2 ^ q ∧ Q (.int (trn q e j : Nat)) H
theorem ok_tu (F : Fun K "turned" "turned" sTu f fd) : FnOk P w K mg base CX0 1 f fd ["q", "some", "j"] spTu := by
  refine F.ok scTu (fun vs H Q E h => ?_) (fun cdv A outer s H vs Q E hr h => ?_)
  · obtain ⟨a, b, c, rfl, _⟩ := h
    rfl
  · obtain ⟨q, e, j, rfl, hj, hq6, he, fin⟩ := h
    refine ⟨_, pss_cons (ps_set (i := 3) scTu.nd rfl (.inl rfl) (pe_op op_modNN (pv 2) (pv 0)))
      (pss_cons (ps_set (i := 4) scTu.nd rfl (.inl rfl) (pe_op op_andN (pv 1) (pe_op op_subN (pe_op op_bit pe_int (pv 3)) pe_int)))
      (pss_one (ps_ret (pe_op op_orN (pe_op op_shrNN (pv 1) (pv 3)) (pe_op op_shlN (pv 4) (pe_op op_subN (pv 0) (pv 3))))))), ?_⟩
    refine ⟨.int j, rfl, .int q, rfl, j, q, rfl, rfl, by omega, ?_⟩
    rw [Nat.mod_eq_of_lt hj]
    refine ⟨.int e, rfl, .int j, rfl, j, rfl, rfl, by omega, 2 ^ j, 1, rfl, rfl, Nat.one_le_two_pow, e, 2 ^ j - 1, rfl, rfl, ?_⟩
    have hp : e &&& (2 ^ j - 1) < 2 ^ 64 := Nat.lt_of_le_of_lt Nat.and_le_left (Nat.lt_of_lt_of_le he (Nat.pow_le_pow_right (by decide) (by omega)))
    refine ⟨.int e, rfl, .int j, rfl, e, j, rfl, rfl, .int ((e &&& (2 ^ j - 1) : Nat) : Int), rfl, .int q, rfl, .int j, rfl, q, j, rfl, rfl, by omega, e &&& (2 ^ j - 1), q - j, rfl, rfl, hp, by omega, e / 2 ^ j, (e &&& (2 ^ j - 1)) <<< (q - j), rfl, rfl, ?_⟩
    rw [← Nat.shiftRight_eq_div_pow]
    exact fin
theorem scFp : FnScope ["some"] ["some"] (defScope sFp) := ⟨rfl, rfl, rfl, by decide +kernel, rfl, by decide +kernel, by decide +kernel⟩
def spFp : Sp := fun vs H Q _ => ∃ n : Nat, vs = [.int n] ∧ n ≠ 0 ∧ Q (.int (fpF n : Nat)) H
theorem ok_fp (F : Fun K "first_place" "first_place" sFp f fd) : FnOk P w K mg base CX0 1 f fd ["some"] spFp := by
  refine F.ok scFp (fun vs H Q E h => ?_) (fun cdv A outer s H vs Q E hr h => ?_)
  · obtain ⟨a, rfl, _⟩ := h
    rfl
  · obtain ⟨n, rfl, h0, fin⟩ := h
    refine ⟨_, pss_one (ps_ret (pe_op op_subN (pe_bits (pe_op op_and (pv 0) (pe_un un_neg (pv 0)))) pe_int)), ?_⟩
    refine ⟨.int n, rfl, .int n, rfl, (n : Int), rfl, (n : Int), -(n : Int), rfl, rfl, _, rfl, ?_⟩
    rw [and_neg h0, bits_nat, ln_pow]
    exact ⟨fpF n + 1, 1, rfl, rfl, by omega, fin⟩
def spLp : Sp := fun vs H Q _ => ∃ n : Nat, vs = [.int n] ∧ n ≠ 0 ∧ Q (.int (lnF n - 1 : Nat)) H
theorem scLp : FnScope ["some"] ["some"] (defScope sLp) := ⟨rfl, rfl, rfl, by decide +kernel, rfl, by decide +kernel, by decide +kernel⟩
theorem ok_lp (F : Fun K "last_place" "last_place" sLp f fd) : FnOk P w K mg base CX0 1 f fd ["some"] spLp := by
  refine F.ok scLp (fun vs H Q E h => ?_) (fun cdv A outer s H vs Q E hr h => ?_)
  · obtain ⟨a, rfl, _⟩ := h
    rfl
  · obtain ⟨n, rfl, h0, fin⟩ := h
    refine ⟨_, pss_one (ps_ret (pe_op op_subN (pe_bits (pv 0)) pe_int)), ?_⟩
    refine ⟨.int n, rfl, (n : Int), rfl, ?_⟩
    rw [bits_nat]
    exact ⟨lnF n, 1, rfl, rfl, by have := ln_bit (ln_top h0); omega, fin⟩
theorem scOt : FnScope ["q", "apart", "reached", "common", "beyond", "lacking", "gap"] ["q", "apart", "reached"] (defScope sOt) := ⟨rfl, rfl, rfl, by decide +kernel, rfl, by decide +kernel, by decide +kernel⟩
def spOt : Sp := fun vs H Q _ => ∃ q d e : Nat, vs = [.int q, .int d, .int e] ∧ 0 < q ∧ q ≤ 60 ∧ d < 2 ^ q ∧ e < 2 ^ q ∧ Q (oVs (otF q d e)) H
theorem ok_ot (F : Fun K "only_tree" "only_tree" sOt f fd) (GTu : FnOk P w K mg base CX0 1 fTu fdTu ["q", "some", "j"] spTu) (kTu : PySem.W.keepIn K (.ref fTu) = true) (bTu : Binds K fdTu ["q", "some", "j"] []) (gTu : mg "turned" = some (.ref fTu))
    (GFp : FnOk P w K mg base CX0 1 fFp fdFp ["some"] spFp) (kFp : PySem.W.keepIn K (.ref fFp) = true) (bFp : Binds K fdFp ["some"] []) (gFp : mg "first_place" = some (.ref fFp))
    (GLp : FnOk P w K mg base CX0 1 fLp fdLp ["some"] spLp) (kLp : PySem.W.keepIn K (.ref fLp) = true) (bLp : Binds K fdLp ["some"] []) (gLp : mg "last_place" = some (.ref fLp)) :
    FnOk P w K mg base CX0 2 f fd ["q", "apart", "reached"] spOt := by
  refine F.ok scOt (fun vs H Q E h => ?_) (fun cdv A outer s H vs Q E hr h => ?_)
  · obtain ⟨a, b, c, rfl, _⟩ := h
    rfl
  · obtain ⟨q, d, e, rfl, hq, hq6, hd, he, fin⟩ := h
    refine ⟨_, pss_cons (ps_set (i := 3) scOt.nd rfl (.inl rfl) (pe_op op_andN (pv 1) (pv 2)))
      (pss_cons (ps_set (i := 4) scOt.nd rfl (.inl rfl) (pe_op op_xorN (pv 2) (pv 3)))
      (pss_cons (ps_set (i := 5) scOt.nd rfl (.inl rfl) (pe_op op_xorN (pv 1) (pv 3)))
      (pss_cons (ps_if (pt_cmpR op_ne (pv 4) pe_int (nomark _)) (pss_one (ps_ret (pe_call GLp hr (by rfl) gLp kLp bLp .nil pass0 (pa_cons (pv 4) pa_nil)))) pss_nil)
      (pss_cons (ps_if (PW.pt (pw_or (pt_cmpR op_eq (pv 2) pe_int (nomark _)) (pw_or1 (pt_cmpR op_eq (pv 5) pe_int (nomark _))))) (pss_one (ps_ret pe_non)) pss_nil)
      (pss_cons (ps_set (i := 6) scOt.nd rfl (.inl rfl) (pe_call GLp hr (by rfl) gLp kLp bLp .nil pass0 (pa_cons (pv 5) pa_nil)))
      (pss_one (ps_ret (pe_op op_modNN (pe_op op_addN (pv 6) (pe_call GFp hr (by rfl) gFp kFp bFp .nil pass0 (pa_cons (pe_call GTu hr (by rfl) gTu kTu bTu .nil pass0 (pa_cons (pv 0) (pa_cons (pv 2) (pa_cons (pv 6) pa_nil)))) pa_nil))) (pv 0))))))))), ?_⟩
    refine ⟨.int d, rfl, .int e, rfl, d, e, rfl, rfl, .int e, rfl, .int ((d &&& e : Nat) : Int), rfl, e, d &&& e, rfl, rfl, .int d, rfl, .int ((d &&& e : Nat) : Int), rfl, d, d &&& e, rfl, rfl, ?_⟩
    unfold otF at fin
    refine ⟨.int ((e ^^^ (d &&& e) : Nat) : Int), rfl, rfl, _, rfl, ?_⟩
    by_cases b : e ^^^ (d &&& e) = 0
    · rw [if_neg (fun z => z b)] at fin
      rw [b]
      refine iteNS rfl ?_
      refine ⟨.int e, rfl, rfl, _, rfl, ?_⟩
      by_cases c1 : e = 0
      · rw [if_pos (.inl c1)] at fin
        rw [decide_eq_true (show V.int (e : Int) = V.int 0 by rw [c1]; rfl)]
        exact iteT (iteT fin)
      · rw [decide_eq_false (show ¬ V.int (e : Int) = V.int 0 from fun z => c1 (by have := V.int.inj z; omega))]
        refine iteF ⟨.int ((d ^^^ (d &&& e) : Nat) : Int), rfl, rfl, _, rfl, ?_⟩
        by_cases c2 : d ^^^ (d &&& e) = 0
        · rw [if_pos (.inr c2)] at fin
          rw [decide_eq_true (show V.int ((d ^^^ (d &&& e) : Nat) : Int) = V.int 0 by rw [c2]; rfl)]
          exact iteT fin
        · rw [if_neg (fun z => z.elim c1 c2)] at fin
          rw [decide_eq_false (show ¬ V.int ((d ^^^ (d &&& e) : Nat) : Int) = V.int 0 from fun z => c2 (by have := V.int.inj z; omega))]
          refine iteF ?_
          have hg := ln_top c2
          rw [lac_bit] at hg
          obtain ⟨g1, g2⟩ := Bool.and_eq_true_iff.mp hg
          have hgq := lt_of_bit hd g1
          refine ⟨.int ((d ^^^ (d &&& e) : Nat) : Int), rfl, d ^^^ (d &&& e), rfl, c2, ?_⟩
          generalize lnF (d ^^^ (d &&& e)) - 1 = g at fin hgq
          have hn0 : trn q e g ≠ 0 := fun z => by
            obtain ⟨y, hy⟩ := Nat.exists_testBit_of_ne_zero c1
            have hyq := lt_of_bit he hy
            obtain ⟨l, hl, el⟩ := at_of g hyq
            have : (trn q e g).testBit l = true := by rw [trn_bit hgq he, decide_eq_true hl, Bool.true_and, Nat.add_comm, el]; exact hy
            rw [z, Nat.zero_testBit] at this
            cases this
          exact ⟨.int (g : Nat), rfl, .int q, rfl, .int e, rfl, .int (g : Nat), rfl, q, e, g, rfl, hgq, hq6, he, trn q e g, rfl, hn0, g, fpF (trn q e g), rfl, rfl, .int q, rfl, _, q, rfl, rfl, hq, fin⟩
    · rw [if_pos b] at fin
      rw [decide_eq_false (show ¬ V.int ((e ^^^ (d &&& e) : Nat) : Int) = V.int 0 from fun z => b (by have := V.int.inj z; omega))]
      exact iteT ⟨.int ((e ^^^ (d &&& e) : Nat) : Int), rfl, e ^^^ (d &&& e), rfl, b, fin⟩
theorem scIw : FnScope ["q", "apart", "reached", "j", "done", "wanted", "crossed_by_then"] ["q", "apart", "reached", "j"] (defScope sIw) := ⟨rfl, rfl, rfl, by decide +kernel, rfl, by decide +kernel, by decide +kernel⟩
def spIw : Sp := fun vs H Q _ => ∃ q d e j : Nat, vs = [.int q, .int d, .int e, .int j] ∧ j < q ∧ q ≤ 60 ∧ d < 2 ^ q ∧ e < 2 ^ q ∧ Q (.bl (iwF q d e j)) H
theorem trn_lt {q e j : Nat} (hj : j < q) (he : e < 2 ^ q) : trn q e j < 2 ^ q := Nat.lt_pow_two_of_testBit _ fun k hk => by
  rw [trn_bit hj he, decide_eq_false (by omega)]
  rfl
theorem ln_le {n q : Nat} (h : n < 2 ^ q) : lnF n ≤ q := by
  by_cases e : n = 0
  · rw [e]
    exact Nat.zero_le _
  · have := lt_of_bit h (ln_top e)
    omega
theorem ok_iw (F : Fun K "is_on_way" "is_on_way" sIw f fd) (GTu : FnOk P w K mg base CX0 1 fTu fdTu ["q", "some", "j"] spTu) (kTu : PySem.W.keepIn K (.ref fTu) = true) (bTu : Binds K fdTu ["q", "some", "j"] []) (gTu : mg "turned" = some (.ref fTu)) : FnOk P w K mg base CX0 2 f fd ["q", "apart", "reached", "j"] spIw := by
  refine F.ok scIw (fun vs H Q E h => ?_) (fun cdv A outer s H vs Q E hr h => ?_)
  · obtain ⟨a, b, c, d, rfl, _⟩ := h
    rfl
  · obtain ⟨q, d, e, j, rfl, hj, hq6, hd, he, fin⟩ := h
    refine ⟨_, pss_cons (ps_set (i := 4) scIw.nd rfl (.inl rfl) (pe_call GTu hr (by rfl) gTu kTu bTu .nil pass0 (pa_cons (pv 0) (pa_cons (pv 2) (pa_cons (pv 3) pa_nil)))))
      (pss_cons (ps_set (i := 5) scIw.nd rfl (.inl rfl) (pe_call GTu hr (by rfl) gTu kTu bTu .nil pass0 (pa_cons (pv 0) (pa_cons (pv 1) (pa_cons (pv 3) pa_nil)))))
      (pss_cons (ps_set (i := 6) scIw.nd rfl (.inl rfl) (pe_op op_subN (pe_op op_bit pe_int (pe_bits (pv 4))) pe_int))
      (pss_one (ps_ret (pe_and (pe_cmpR op_eq (pe_op op_andN (pv 4) pe_int) pe_int (nomark _)) (pe_one (pe_cmpR op_le (pe_op op_andN (pe_op op_xorN (pv 4) (pv 5)) (pv 6)) pe_int (nomark _)))))))), ?_⟩
    refine ⟨.int q, rfl, .int e, rfl, .int j, rfl, q, e, j, rfl, hj, hq6, he, .int q, rfl, .int d, rfl, .int j, rfl, q, d, j, rfl, hj, hq6, hd, .int (trn q e j : Nat), rfl, (trn q e j : Nat), rfl, ?_⟩
    rw [bits_nat]
    have hl := ln_le (trn_lt hj he)
    refine ⟨lnF (trn q e j), rfl, rfl, by omega, 2 ^ lnF (trn q e j), 1, rfl, rfl, Nat.one_le_two_pow, ?_⟩
    refine ⟨.int (trn q e j : Nat), rfl, trn q e j, 1, rfl, rfl, rfl, _, rfl, ?_⟩
    unfold iwF at fin
    by_cases c : trn q e j &&& 1 = 1
    · rw [decide_eq_true c, Bool.true_and] at fin
      rw [c]
      refine iteT ⟨.int (trn q e j : Nat), rfl, .int (trn q d j : Nat), rfl, trn q e j, trn q d j, rfl, rfl, .int ((2 ^ lnF (trn q e j) - 1 : Nat) : Int), rfl, trn q e j ^^^ trn q d j, 2 ^ lnF (trn q e j) - 1, rfl, rfl, _, _, rfl, rfl, ?_⟩
      have ed : decide ((((trn q e j ^^^ trn q d j) &&& (2 ^ lnF (trn q e j) - 1) : Nat) : Int) ≤ 1) = decide ((trn q e j ^^^ trn q d j) &&& (2 ^ lnF (trn q e j) - 1) ≤ 1) := by
        by_cases z : (trn q e j ^^^ trn q d j) &&& (2 ^ lnF (trn q e j) - 1) ≤ 1
        · rw [decide_eq_true z, decide_eq_true (by omega)]
        · rw [decide_eq_false z, decide_eq_false (by omega)]
      show Q (.bl (decide ((((trn q e j ^^^ trn q d j) &&& (2 ^ lnF (trn q e j) - 1) : Nat) : Int) ≤ 1))) _
      rw [ed]
      exact fin
    · rw [decide_eq_false c, Bool.false_and] at fin
      rw [decide_eq_false (show ¬ V.int ((trn q e j &&& 1 : Nat) : Int) = V.int 1 from fun z => c (by have := V.int.inj z; omega))]
      exact iteF fin
theorem scTh : FnScope ["q", "hand", "other", "source", "apart", "reached", "j"] ["q", "hand", "other", "source"] (defScope sTh) := ⟨rfl, rfl, rfl, by decide +kernel, rfl, by decide +kernel, by decide +kernel⟩
def spTh : Sp := fun vs H Q _ => ∃ q h o s : Nat, vs = [.int q, .int h, .int o, .int s] ∧ 0 < q ∧ q ≤ 60 ∧ h < 2 ^ q ∧ o < 2 ^ q ∧ s < 2 ^ q ∧ Q (oVs (thF q (h ^^^ s) (o ^^^ s))) H
theorem ok_th (F : Fun K "tree_through" "tree_through" sTh f fd) (GOt : FnOk P w K mg base CX0 2 fOt fdOt ["q", "apart", "reached"] spOt) (kOt : PySem.W.keepIn K (.ref fOt) = true) (bOt : Binds K fdOt ["q", "apart", "reached"] []) (gOt : mg "only_tree" = some (.ref fOt))
    (GIw : FnOk P w K mg base CX0 2 fIw fdIw ["q", "apart", "reached", "j"] spIw) (kIw : PySem.W.keepIn K (.ref fIw) = true) (bIw : Binds K fdIw ["q", "apart", "reached", "j"] []) (gIw : mg "is_on_way" = some (.ref fIw)) : FnOk P w K mg base CX0 3 f fd ["q", "hand", "other", "source"] spTh := by
  refine F.ok scTh (fun vs H Q E h => ?_) (fun cdv A outer s H vs Q E hr h => ?_)
  · obtain ⟨a, b, c, d, rfl, _⟩ := h
    rfl
  · obtain ⟨q, h, o, s0, rfl, hq, hq6, hh, ho, hs, fin⟩ := h
    refine ⟨_, pss_cons (ps_set (i := 4) scTh.nd rfl (.inl rfl) (pe_op op_xorN (pv 1) (pv 3)))
      (pss_cons (ps_set (i := 5) scTh.nd rfl (.inl rfl) (pe_op op_xorN (pv 2) (pv 3)))
      (pss_cons (ps_set (i := 6) scTh.nd rfl (.inl rfl) (pe_call GOt hr (by rfl) gOt kOt bOt .nil pass0 (pa_cons (pv 0) (pa_cons (pv 4) (pa_cons (pv 5) pa_nil)))))
      (pss_cons (ps_if (PW.pt (pw_or (pt_cmp (pc_isN (pv 6))) (pw_or1 (pt_not (pt_val (pe_call GIw hr (by rfl) gIw kIw bIw .nil pass0 (pa_cons (pv 0) (pa_cons (pv 4) (pa_cons (pv 5) (pa_cons (pv 6) pa_nil)))))))))) (pss_one (ps_ret pe_non)) pss_nil)
      (pss_one (ps_ret (pv 6)))))), ?_⟩
    have hd : h ^^^ s0 < 2 ^ q := Nat.xor_lt_two_pow hh hs
    have he : o ^^^ s0 < 2 ^ q := Nat.xor_lt_two_pow ho hs
    refine ⟨.int h, rfl, .int s0, rfl, h, s0, rfl, rfl, .int o, rfl, .int s0, rfl, o, s0, rfl, rfl, .int q, rfl, .int ((h ^^^ s0 : Nat) : Int), rfl, .int ((o ^^^ s0 : Nat) : Int), rfl, q, h ^^^ s0, o ^^^ s0, rfl, hq, hq6, hd, he, ?_⟩
    unfold thF at fin
    cases z : otF q (h ^^^ s0) (o ^^^ s0) with
    | none =>
      rw [z] at fin
      exact ⟨.non, rfl, _, rfl, iteT (iteT fin)⟩
    | some j =>
      rw [z] at fin
      have hj := (ot_lt hq he z).1
      have fin : Q (oVs (if iwF q (h ^^^ s0) (o ^^^ s0) j = true then some j else none)) H := fin
      refine ⟨.int (j : Nat), rfl, _, rfl, iteF ⟨.int q, rfl, .int ((h ^^^ s0 : Nat) : Int), rfl, .int ((o ^^^ s0 : Nat) : Int), rfl, .int (j : Nat), rfl, q, h ^^^ s0, o ^^^ s0, j, rfl, hj, hq6, hd, he, _, rfl, ?_⟩⟩
      cases c : iwF q (h ^^^ s0) (o ^^^ s0) j with
      | true =>
        rw [c] at fin
        exact iteF ⟨_, rfl, fin⟩
      | false =>
        rw [c] at fin
        exact iteT fin
/-- the trees that some hands spoil -/
def spF (q h s : Nat) (os : List Nat) (n : Nat) : List Nat := (List.range n).filter fun j => os.any fun o => decide (thF q (h ^^^ s) (o ^^^ s) = some j)
theorem spF_succ (q h s : Nat) (os : List Nat) (n : Nat) : spF q h s os (n + 1) = spF q h s os n ++ (if (os.any fun o => decide (thF q (h ^^^ s) (o ^^^ s) = some n)) = true then [n] else []) := by
  unfold spF
  rw [List.range_succ, List.filter_append]
  cases e : os.any fun o => decide (thF q (h ^^^ s) (o ^^^ s) = some n) <;> simp [e]
theorem spF_len (q h s : Nat) (os : List Nat) (n : Nat) : (spF q h s os n).length ≤ n := by
  unfold spF
  have := List.length_filter_le (fun j => os.any fun o => decide (thF q (h ^^^ s) (o ^^^ s) = some j)) (List.range n)
  rw [List.length_range] at this
  exact this
theorem sp_iff {q h s j : Nat} {os : List Nat} (hq : 0 < q) (hh : h < 2 ^ q) (hs : s < 2 ^ q) (hos : ∀ o ∈ os, o < 2 ^ q) : j ∈ spF q h s os q ↔ j < q ∧ ∃ o ∈ os, Bt q (h ^^^ s) j (o ^^^ s) := by
  unfold spF
  rw [List.mem_filter, List.mem_range, List.any_eq_true]
  constructor
  · rintro ⟨h1, o, h2, h3⟩
    exact ⟨h1, o, h2, ((th_iff hq (Nat.xor_lt_two_pow hh hs) (Nat.xor_lt_two_pow (hos o h2) hs)).mp (of_decide_eq_true h3)).2⟩
  · rintro ⟨h1, o, h2, h3⟩
    exact ⟨h1, o, h2, decide_eq_true ((th_iff hq (Nat.xor_lt_two_pow hh hs) (Nat.xor_lt_two_pow (hos o h2) hs)).mpr ⟨h1, h3⟩)⟩
theorem in_trees (q h s j : Nat) : ∀ os : List Nat, inV (.int (j : Int)) (os.map fun o => oVs (thF q (h ^^^ s) (o ^^^ s))) = os.any fun o => decide (thF q (h ^^^ s) (o ^^^ s) = some j)
  | [] => rfl
  | o :: os => by
    have ih := in_trees q h s j os
    unfold inV at ih
    unfold inV
    rw [List.map_cons, List.any_cons, List.any_cons, ih]
    congr 1
    cases e : thF q (h ^^^ s) (o ^^^ s) with
    | none => rfl
    | some i =>
      show ((i : Int) == (j : Int)) = decide (some i = some j)
      by_cases z : i = j
      · subst z
        simp
      · rw [decide_eq_false (fun y => z (Option.some.inj y))]
        exact beq_eq_false_iff_ne.mpr (by omega)
theorem flat_trees (q h s : Nat) (os : List Nat) : (os.map fun o => oVs (thF q (h ^^^ s) (o ^^^ s))).all flatV = true := by
  rw [List.all_eq_true]
  intro v hv
  obtain ⟨o, _, rfl⟩ := List.mem_map.mp hv
  cases thF q (h ^^^ s) (o ^^^ s) <;> rfl
theorem scSp : FnScope ["q", "hand", "lot", "source", "trees", "other", "j"] ["q", "hand", "lot", "source"] (defScope sSp) := ⟨rfl, rfl, rfl, by decide +kernel, rfl, by decide +kernel, by decide +kernel⟩
def spSp : Sp := fun vs H Q _ => ∃ (q h s : Nat) (a : Addr) (os : List Nat), vs = [.int q, .int h, .ref a, .int s] ∧ 0 < q ∧ q ≤ 60 ∧ h < 2 ^ q ∧ s < 2 ^ q ∧ (∀ o ∈ os, o < 2 ^ q) ∧ os.length ≤ 900 ∧ H a = some (.tup (nv os)) ∧ ∀ H' p, Same H H' → H' p = some (.tup (nv (spF q h s os q))) → Q (.ref p) H'
theorem ok_sp (F : FunS K "spoilt" sSp f fd) (GTh : FnOk P w K mg base CX0 3 fTh fdTh ["q", "hand", "other", "source"] spTh) (kTh : PySem.W.keepIn K (.ref fTh) = true) (bTh : Binds K fdTh ["q", "hand", "other", "source"] []) (gTh : mg "tree_through" = some (.ref fTh)) (mr : mg "range" = none) (mt : mg "tuple" = none) :
    FnOk P w K mg base CX0 4 f fd ["q", "hand", "lot", "source"] spSp := by
  refine F.go scSp (fun vs H Q E h => ?_) (fun cdv A outer s H vs Q E hr h => ?_)
  · obtain ⟨a, b, c, d, e, rfl, _⟩ := h
    rfl
  · obtain ⟨q, h, s0, a, os, rfl, hq, hq6, hh, hs, hos, hlen, hS, fin⟩ := h
    refine ⟨_, pss_cons (ps_set (i := 4) scSp.nd rfl (.inr rfl) (pe_lc (own := [("other", 5)]) (g := gName 5) (by rfl) scSp.nd (pi_tup (pv 2))
        (blkOk_by (own := [("other", 5)]) (N := ["q", "hand", "lot", "source", "trees", "other", "j"]) (sc := defScope sSp) (by decide +kernel)) (fun _ _ _ _ _ => pg_name (i := 5) scSp.nd rfl (Or.inl rfl))
        (fun _ _ _ _ _ => pts_nil) (fun _ _ _ _ _ => pe_call GTh hr (by rfl) gTh kTh bTh .nil pass0 (pa_cons (pv 0) (pa_cons (pv 1) (pa_cons (pv 5) (pa_cons (pv 3) pa_nil)))))))
      (pss_one (ps_ret (pe_callTy call_tuple_of (by rfl) mt (by decide +kernel) (pa_cons (pe_lc (own := [("j", 6)]) (g := gName 6) (tt := tTest (tOp (rIn K false) (tVar 6) (tVar 4))) (by rfl) scSp.nd (pi_range1 (by rfl) mr (pa_cons (pv 0) pa_nil))
        (blkOk_by (own := [("j", 6)]) (N := ["q", "hand", "lot", "source", "trees", "other", "j"]) (sc := defScope sSp) (by decide +kernel)) (fun _ _ _ _ _ => pg_name (i := 6) scSp.nd rfl (Or.inl rfl))
        (fun _ _ _ _ _ => pts_one (pt_cmpR op_in_seq (pv 6) (pv 4) (by rfl))) (fun _ _ _ _ _ => pv 6)) pa_nil)))), ?_⟩
    refine ⟨.ref a, rfl, a, rfl, ⟨_, .inl (.inl hS)⟩, fun D nD => lc_tup (xs := nv os) (fun i H' => Same H H' ∧ H' D = some (.lst ((os.take i).map fun o => oVs (thF q (h ^^^ s0) (o ^^^ s0))))) ⟨same_new (Same.refl H) nD, upd_same⟩ (fun i H' _ z => .inl (.inl (z.1 _ _ hS))) ?_ ?_⟩
    · rintro i v H1 hv ⟨s1, eD⟩
      have hlt : i < os.length := by
        have := (List.getElem?_eq_some_iff.mp hv).1
        rw [nv_len] at this
        exact this
      have ev1 : v = .int ((os[i]'hlt : Nat) : Int) := Option.some.inj (hv.symm.trans (nv_at (List.getElem?_eq_getElem hlt)))
      subst ev1
      have ht : os.take (i + 1) = os.take i ++ [os[i]'hlt] := by rw [List.take_add_one, List.getElem?_eq_getElem hlt]; rfl
      refine ⟨rfl, yes ⟨.int q, rfl, .int h, rfl, _, rfl, .int s0, rfl, q, h, os[i]'hlt, s0, rfl, hq, hq6, hh, hos _ (List.getElem_mem hlt), hs, _, eD, ?_, fun b o z => ?_, ?_⟩⟩
      · rw [List.length_map, List.length_take]
        exact small1000 (by omega)
      · rw [upd_ne (ne_of_none z nD)]
        exact s1 b o z
      · rw [upd_same, ht, List.map_append]
        rfl
    · rintro H1 ⟨s1, eD⟩
      rw [nv_len, List.take_length] at eD
      refine ⟨.int q, rfl, _, rfl, by omega, by omega, fun G nG => lc_range (lo := 0) (fun i H' => Same H1 H' ∧ H' G = some (.lst (nv (spF q h s0 os i)))) ⟨same_new (Same.refl H1) nG, upd_same⟩ ?_ ?_⟩
      · rintro i H2 hi ⟨s2, eG⟩
        rw [show (0 : Int) + (i : Int) = ((i : Nat) : Int) by omega]
        refine ⟨rfl, .int (i : Nat), rfl, .ref D, rfl, D, _, rfl, .inl (.inl (.inl (s2 _ _ eD))), rfl, flat_trees q h s0 os, _, rfl, ?_⟩
        show if inV (.int (i : Int)) (os.map fun o => oVs (thF q (h ^^^ s0) (o ^^^ s0))) = true then _ else _
        rw [in_trees]
        have hsu := spF_succ q h s0 os i
        cases b : os.any fun o => decide (thF q (h ^^^ s0) (o ^^^ s0) = some i) with
        | true =>
          rw [b, if_pos rfl] at hsu
          refine iteT ⟨_, rfl, _, eG, ?_, fun b' o z => ?_, ?_⟩
          · rw [nv_len]
            have := spF_len q h s0 os i
            exact small1000 (by omega)
          · rw [upd_ne (ne_of_none z nG)]
            exact s2 b' o z
          · rw [upd_same, hsu]
            simp [nv]
        | false =>
          rw [b, if_neg (by decide), List.append_nil] at hsu
          exact iteF ⟨s2, by rw [eG, hsu]⟩
      · rintro H2 ⟨s2, eG⟩
        have eG : H2 G = some (.lst (nv (spF q h s0 os q))) := eG
        refine ⟨G, _, rfl, .inl ⟨.inl (.inl eG), fun p np => ?_⟩⟩
        exact fin _ p (same_new (s1.trans s2) np) upd_same
end
theorem slM {K : PySem.W.Frag} {a : Addr} {xs ys : List V} {lo hi : Option Int} {H : Hp} {Q : VK} (h : H a = some (.tup xs)) (e : cutV xs lo hi = ys) (q : ∀ H' b, Same H H' → H' b = some (.tup ys) → Q (.ref b) H') : rSlA K (.ref a) lo hi H Q := by
  refine ⟨a, xs, rfl, .inl (.inl h), fun w => q H a (Same.refl H) ?_, fun _ p np => q _ p (same_new (Same.refl H) np) (by rw [upd_same, e])⟩
  have : cutV xs lo hi = xs := by
    unfold cutV
    rw [w.1, w.2, List.drop_zero, Nat.sub_zero, List.take_length]
  rw [← e, this]
  exact h
theorem nv_mid {xs : List Nat} (h : 1 ≤ xs.length) : cutV (nv xs) (some 1) (some (-1)) = nv xs.tail.dropLast := by
  have e : HT.sIx (nv xs).length (nv xs).length (some (-1)) = xs.length - 1 := by
    rw [nv_len]
    show (if (-1 : Int) < 0 then ((-1 : Int) + (xs.length : Int)).toNat else min (-1 : Int).toNat xs.length) = xs.length - 1
    rw [if_pos (by decide)]
    omega
  have e1 : HT.sIx (nv xs).length 0 (some 1) = 1 := by
    rw [nv_len]
    show (if (1 : Int) < 0 then ((1 : Int) + (xs.length : Int)).toNat else min (1 : Int).toNat xs.length) = 1
    rw [if_neg (by decide)]
    show min 1 xs.length = 1
    omega
  unfold cutV
  rw [e1, e, List.dropLast_eq_take, List.length_tail]
  unfold nv
  rw [← List.map_drop, ← List.map_take, List.drop_one]
theorem in_nvD (n : Nat) (os : List Nat) : inV (.int (n : Int)) (nv os) = decide (n ∈ os) := by
  induction os with
  | nil => rfl
  | cons o os ih =>
    unfold inV nv at ih ⊢
    rw [List.map_cons, List.any_cons, ih]
    show (((o : Int) == (n : Int)) || decide (n ∈ os)) = decide (n ∈ o :: os)
    by_cases z : o = n
    · subst z
      simp
    · have : ((o : Int) == (n : Int)) = false := beq_eq_false_iff_ne.mpr (by omega)
      rw [this, Bool.false_or]
      by_cases y : n ∈ os
      · rw [decide_eq_true y, decide_eq_true (List.mem_cons_of_mem o y)]
      · rw [decide_eq_false y, decide_eq_false (fun x => (List.mem_cons.mp x).elim (fun e => z e.symm) y)]
theorem mid_any {q h s j : Nat} {os : List Nat} (hq : 0 < q) (hj : j < q) (hh : h < 2 ^ q) (hs : s < 2 ^ q) (hos : ∀ o ∈ os, o < 2 ^ q) : ((mid q h s j).any fun p => decide (p ∈ os)) = os.any fun o => decide (thF q (h ^^^ s) (o ^^^ s) = some j) := by
  rw [Bool.eq_iff_iff, List.any_eq_true, List.any_eq_true]
  constructor
  · rintro ⟨p, hp, ho⟩
    have ho := of_decide_eq_true ho
    exact ⟨p, ho, decide_eq_true ((th_iff hq (Nat.xor_lt_two_pow hh hs) (Nat.xor_lt_two_pow (hos p ho) hs)).mpr ⟨hj, mid_mem.mp hp⟩)⟩
  · rintro ⟨o, ho, ht⟩
    exact ⟨o, mid_mem.mpr ((th_iff hq (Nat.xor_lt_two_pow hh hs) (Nat.xor_lt_two_pow (hos o ho) hs)).mp (of_decide_eq_true ht)).2, decide_eq_true ho⟩
theorem spF_nodup (q h s : Nat) (os : List Nat) (n : Nat) : (spF q h s os n).Pairwise (· < ·) := List.Pairwise.filter _ List.pairwise_lt_range
theorem spF_le (q h s : Nat) (os : List Nat) (n : Nat) : (spF q h s os n).length ≤ os.length := by
  have := nodup_le (l := spF q h s os n) (m := os.map fun o => (thF q (h ^^^ s) (o ^^^ s)).getD 0) ((spF_nodup q h s os n).imp fun {a b} z => Nat.ne_of_lt z) fun x hx => by
    unfold spF at hx
    rw [List.mem_filter, List.any_eq_true] at hx
    obtain ⟨_, o, ho, e⟩ := hx
    refine List.mem_map.mpr ⟨o, ho, ?_⟩
    rw [of_decide_eq_true e]
    rfl
  rw [List.length_map] at this
  exact this
/-! ### came -/
def cmF (q h s : Nat) (os : List Nat) (n : Nat) : List Nat := (List.range n).filter fun j => !decide (j ∈ spF q h s os q)
theorem cmF_succ (q h s : Nat) (os : List Nat) (n : Nat) : cmF q h s os (n + 1) = cmF q h s os n ++ (if (!decide (n ∈ spF q h s os q)) = true then [n] else []) := by
  unfold cmF
  rw [List.range_succ, List.filter_append, List.filter_cons, List.filter_nil]
theorem cmF_len (q h s : Nat) (os : List Nat) (n : Nat) : (cmF q h s os n).length ≤ n := by
  unfold cmF
  exact Nat.le_trans (List.length_filter_le _ _) (by rw [List.length_range]; exact Nat.le_refl n)
section
variable {P : Program} {w : World} {K : PySem.W.Frag} {mg : Str → Option Value} {base : Heap} {f fSp : Addr} {fd fdSp : FuncData} {k : Nat}
theorem scCm : FnScope ["q", "hand", "lot", "source", "lost", "j"] ["q", "hand", "lot", "source"] (defScope sCm) := ⟨rfl, rfl, rfl, by decide +kernel, rfl, by decide +kernel, by decide +kernel⟩
def spCm : Sp := fun vs H Q _ => ∃ (q h s : Nat) (a : Addr) (os : List Nat), vs = [.int q, .int h, .ref a, .int s] ∧ 0 < q ∧ q ≤ 60 ∧ h < 2 ^ q ∧ s < 2 ^ q ∧ (∀ o ∈ os, o < 2 ^ q) ∧ os.length ≤ 900 ∧ H a = some (.tup (nv os)) ∧ ∀ H' p, Same H H' → H' p = some (.tup (nv (cmF q h s os q))) → Q (.ref p) H'
theorem ok_cm (F : FunS K "came" sCm f fd) (GSp : FnOk P w K mg base CX0 4 fSp fdSp ["q", "hand", "lot", "source"] spSp) (kSp : PySem.W.keepIn K (.ref fSp) = true) (qSp : KBinds K fdSp ["q", "hand", "lot", "source"] ["source"] g3 g3) (gSp : mg "spoilt" = some (.ref fSp)) (mr : mg "range" = none) (mt : mg "tuple" = none) :
    FnOk P w K mg base CX0 5 f fd ["q", "hand", "lot", "source"] spCm := by
  refine F.go scCm (fun vs H Q E h => ?_) (fun cdv A outer s H vs Q E hr h => ?_)
  · obtain ⟨a, b, c, d, e, rfl, _⟩ := h
    rfl
  · obtain ⟨q, h, s0, a, os, rfl, hq, hq6, hh, hs, hos, hlen, hS, fin⟩ := h
    refine ⟨_, pss_cons (ps_set (i := 4) scCm.nd rfl (.inr rfl) (pe_callK GSp (hr.mono (by decide)) (by rfl) gSp kSp qSp pass0 (pa_cons (pv 0) (pa_cons (pv 1) (pa_cons (pv 2) pa_nil))) (pk_cons (pv 3) pk_nil)))
      (pss_one (ps_ret (pe_callTy call_tuple_of (by rfl) mt (by decide +kernel) (pa_cons (pe_lc (own := [("j", 5)]) (g := gName 5) (tt := tTest (tOp (rIn K true) (tVar 5) (tVar 4))) (by rfl) scCm.nd (pi_range1 (by rfl) mr (pa_cons (pv 0) pa_nil))
        (blkOk_by (own := [("j", 5)]) (N := ["q", "hand", "lot", "source", "lost", "j"]) (sc := defScope sCm) (by decide +kernel)) (fun _ _ _ _ _ => pg_name (i := 5) scCm.nd rfl (Or.inl rfl))
        (fun _ _ _ _ _ => pts_one (pt_cmpR op_notIn_seq (pv 5) (pv 4) (by rfl))) (fun _ _ _ _ _ => pv 5)) pa_nil)))), ?_⟩
    refine ⟨.int q, rfl, .int h, rfl, .ref a, rfl, .int s0, rfl, q, h, s0, a, os, rfl, hq, hq6, hh, hs, hos, hlen, hS, fun H1 p1 s1 e1 => ?_⟩
    refine ⟨.int q, rfl, _, rfl, by omega, by omega, fun G nG => lc_range (lo := 0) (fun i H' => Same H1 H' ∧ H' G = some (.lst (nv (cmF q h s0 os i)))) ⟨same_new (Same.refl H1) nG, upd_same⟩ ?_ ?_⟩
    · rintro i H2 hi ⟨s2, eG⟩
      rw [show (0 : Int) + (i : Int) = ((i : Nat) : Int) by omega]
      refine ⟨rfl, .int (i : Nat), rfl, .ref p1, rfl, p1, _, rfl, .inr (.inl (.inl (s2 _ _ e1))), rfl, flat_nv _, _, rfl, ?_⟩
      show if (!inV (.int (i : Int)) (nv (spF q h s0 os q))) = true then _ else _
      rw [in_nvD]
      have hsu := cmF_succ q h s0 os i
      cases b : decide (i ∈ spF q h s0 os q) with
      | false =>
        rw [b, if_pos (show (!false) = true from rfl)] at hsu
        refine iteT ⟨_, rfl, _, eG, ?_, fun b' o z => ?_, ?_⟩
        · rw [nv_len]
          have := cmF_len q h s0 os i
          exact small1000 (by omega)
        · rw [upd_ne (ne_of_none z nG)]
          exact s2 b' o z
        · rw [upd_same, hsu]
          simp [nv]
      | true =>
        rw [b, if_neg (by decide), List.append_nil] at hsu
        exact iteF ⟨s2, by rw [eG, hsu]⟩
    · rintro H2 ⟨s2, eG⟩
      have eG : H2 G = some (.lst (nv (cmF q h s0 os q))) := eG
      exact ⟨G, _, rfl, .inl ⟨.inl (.inl eG), fun p np => fin _ p (same_new (s1.trans s2) np) upd_same⟩⟩
end
end Bf
namespace Bf
open PySem PySem.Spec PyProof.Rows L2 LamX NdefX

def rModNN : R2 := fun x y H Q => ∃ n m : Nat, x = .int (n : Int) ∧ y = .int (m : Int) ∧ 0 < m ∧ Q (.int ((n % m : Nat) : Int)) H
def rShrNN : R2 := fun x y H Q => ∃ n m : Nat, x = .int (n : Int) ∧ y = .int (m : Int) ∧ Q (.int ((n / 2 ^ m : Nat) : Int)) H
def stF (q d j n : Nat) : List Nat := (List.range n).filter fun i => decide (i = 0) || d.testBit ((j + i) % q)
theorem stF_succ (q d j n : Nat) : stF q d j (n + 1) = stF q d j n ++ (if (decide (n = 0) || d.testBit ((j + n) % q)) = true then [n] else []) := by
  unfold stF
  rw [List.range_succ, List.filter_append, List.filter_cons, List.filter_nil]
theorem stF_len (q d j n : Nat) : (stF q d j n).length ≤ n := by
  unfold stF
  exact Nat.le_trans (List.length_filter_le _ _) (by rw [List.length_range]; exact Nat.le_refl n)
theorem st_tp {q d j : Nat} (hj : j < q) : ∀ n, (stF q d j (n + 1)).map (fun i => (j + i) % q) = j :: tp q d j n
  | 0 => by
    unfold stF tp
    simp [Nat.mod_eq_of_lt hj]
  | n + 1 => by
    rw [stF_succ, List.map_append, st_tp hj n, tp_succ, show n + 1 = 1 + n from Nat.add_comm n 1]
    have : decide (1 + n = 0) = false := decide_eq_false (by omega)
    rw [this, Bool.false_or]
    by_cases c : d.testBit ((j + (1 + n)) % q) = true
    · simp [c]
    · simp [c]
theorem st_all {q d j : Nat} (hj : j < q) : (stF q d j q).map (fun i => (j + i) % q) = j :: tp q d j (q - 1) := by
  have := st_tp (d := d) hj (q - 1)
  rw [show q - 1 + 1 = q by omega] at this
  exact this
theorem bitM (h k : Nat) : decide (V.int ((h / 2 ^ k % 2 : Nat) : Int) = V.int 1) = h.testBit k := by
  rw [Nat.testBit_eq_decide_div_mod_eq]
  by_cases z : h / 2 ^ k % 2 = 1
  · rw [decide_eq_true z, z]; rfl
  · rw [decide_eq_false z]
    exact decide_eq_false fun e => z (by have := V.int.inj e; omega)
theorem bitM0 (h k : Nat) : decide (V.int ((h / 2 ^ k % 2 : Nat) : Int) = V.int 0) = !h.testBit k := by
  rw [Nat.testBit_eq_decide_div_mod_eq]
  by_cases z : h / 2 ^ k % 2 = 1
  · rw [decide_eq_true z, z]; rfl
  · rw [decide_eq_false z]
    have : h / 2 ^ k % 2 = 0 := by omega
    rw [this]; rfl
section
variable {P : Program} {w : World} {K : PySem.W.Frag} {mg : Str → Option Value} {base : Heap} {f fRo fRd : Addr} {fd fdRo fdRd : FuncData} {k : Nat}
/-! ### rounds -/
def rgL (q j n : Nat) : List Nat := (List.range n).map fun i => (j + i) % q
theorem scRo : FnScope ["_law_wide", "_law_tree", "_law_step"] ["_law_wide", "_law_tree"] (defScope sRo) := ⟨rfl, rfl, rfl, by decide +kernel, rfl, by decide +kernel, by decide +kernel⟩
def spRo : Sp := fun vs H Q _ => ∃ q j : Nat, vs = [.int q, .int j] ∧ 0 < q ∧ q ≤ 60 ∧ ∀ H' p, Same H H' → H' p = some (.lst (nv (rgL q j q))) → Q (.ref p) H'
theorem ok_ro (F : Fun K "_law_rounds" "_law_rounds" sRo f fd) (mr : mg "range" = none) : FnOk P w K mg base CX0 (k + 1) f fd ["_law_wide", "_law_tree"] spRo := by
  refine F.ok scRo (fun vs H Q E h => ?_) (fun cdv A outer s H vs Q E hr h => ?_)
  · obtain ⟨a, b, rfl, _⟩ := h
    rfl
  · obtain ⟨q, j, rfl, hq, hq6, fin⟩ := h
    refine ⟨_, pss_one (ps_ret (pe_lc (own := [("_law_step", 2)]) (g := gName 2) (by rfl) scRo.nd (pi_range1 (by rfl) mr (pa_cons (pv 0) pa_nil))
        (blkOk_by (own := [("_law_step", 2)]) (N := ["_law_wide", "_law_tree", "_law_step"]) (sc := defScope sRo) (by decide +kernel)) (fun _ _ _ _ _ => pg_name (i := 2) scRo.nd rfl (Or.inl rfl))
        (fun _ _ _ _ _ => pts_nil) (fun _ _ _ _ _ => pe_op op_modNN (pe_op op_addN (pv 1) (pv 2)) (pv 0)))), ?_⟩
    refine ⟨.int q, rfl, _, rfl, by omega, by omega, fun D nD => lc_range (lo := 0) (fun i H' => Same H H' ∧ H' D = some (.lst (nv (rgL q j i)))) ⟨same_new (Same.refl H) nD, upd_same⟩ ?_ ?_⟩
    · rintro i H1 hi ⟨sm, eD⟩
      rw [show (0 : Int) + (i : Int) = ((i : Nat) : Int) by omega]
      refine ⟨rfl, yes ⟨.int j, rfl, .int (i : Nat), rfl, j, i, rfl, rfl, .int q, rfl, j + i, q, rfl, rfl, hq, _, eD, ?_, fun b o z => ?_, ?_⟩⟩
      · unfold rgL
        rw [nv_len, List.length_map, List.length_range]
        exact small1000 (by omega)
      · rw [upd_ne (ne_of_none z nD)]
        exact sm b o z
      · unfold rgL
        rw [upd_same, List.range_succ]
        simp [nv]
    · rintro H1 ⟨sm, eD⟩
      exact fin H1 D sm eD
/-! ### road -/
theorem scRd : FnScope ["_law_wide", "_law_one", "_law_tree", "_law_home", "_law_gone", "_law_ring", "_law_steps", "_law_passed", "_law_hands", "_law_at", "_law_bit"] ["_law_wide", "_law_one", "_law_tree", "_law_home"] (defScope sRd) := ⟨rfl, rfl, rfl, by decide +kernel, rfl, by decide +kernel, by decide +kernel⟩
def spRd : Sp := fun vs H Q _ => ∃ q h j s : Nat, vs = [.int q, .int h, .int j, .int s] ∧ 0 < q ∧ q ≤ 60 ∧ j < q ∧ ∀ H' p W x y, Same H H' → H W = none → H' p = some (.tup [.ref W, x, y]) → H' W = some (.lst (nv (wl s (cl q (h ^^^ s) j)))) → Q (.ref p) H'
theorem ok_rd (F : Fun K "_law_road" "_law_road" sRd f fd) (GRo : FnOk P w K mg base CX0 1 fRo fdRo ["_law_wide", "_law_tree"] spRo) (kRo : PySem.W.keepIn K (.ref fRo) = true) (bRo : Binds K fdRo ["_law_wide", "_law_tree"] []) (gRo : mg "_law_rounds" = some (.ref fRo)) (mr : mg "range" = none) :
    FnOk P w K mg base CX0 2 f fd ["_law_wide", "_law_one", "_law_tree", "_law_home"] spRd := by
  refine F.ok scRd (fun vs H Q E h => ?_) (fun cdv A outer s H vs Q E hr h => ?_)
  · obtain ⟨a, b, c, d, rfl, _⟩ := h
    rfl
  · obtain ⟨q, h, j, s0, rfl, hq, hq6, hj, fin⟩ := h
    refine ⟨_, pss_cons (ps_set (i := 4) scRd.nd rfl (.inr rfl) (pe_op op_xorN (pv 1) (pv 3)))
      (pss_cons (ps_set (i := 5) scRd.nd rfl (.inr rfl) (pe_call GRo (hr.mono (by decide)) (by rfl) gRo kRo bRo .nil pass0 (pa_cons (pv 0) (pa_cons (pv 2) pa_nil))))
      (pss_cons (ps_setLc (i := 6) (own := [("_law_at", 9)]) (g := gName 9) (tt := tOr (tTest (tOp rEq (tVar 9) (tC (.int 0)))) (tTest (tOp rEq (tOp rModNN (tOp rShrNN (tVar 4) (tOp (rIxL K) (tVar 5) (tVar 9))) (tC (.int 2))) (tC (.int 1))))) (by rfl) scRd.nd rfl (by rfl) (by rfl) (pi_range1 (by rfl) mr (pa_cons (pv 0) pa_nil))
        (blkOk_by (own := [("_law_at", 9)]) (N := ["_law_wide", "_law_one", "_law_tree", "_law_home", "_law_gone", "_law_ring", "_law_steps", "_law_passed", "_law_hands", "_law_at", "_law_bit"]) (sc := defScope sRd) (by decide +kernel)) (fun _ _ _ _ _ => pg_name (i := 9) scRd.nd rfl (Or.inl rfl))
        (fun _ _ _ _ _ => pts_one (PW.pt (pw_or (pt_cmpR op_eq (pv 9) pe_int (nomark _)) (pw_or1 (pt_cmpR op_eq (pe_op op_modNN (pe_op op_shrNN (pv 4) (pe_ix ix_list (pv 5) (pv 9) (fun _ _ => rfl))) pe_int) pe_int (nomark _)))))) (fun _ _ _ _ _ => pv 9))
      (pss_cons (ps_setLc (i := 7) (own := [("_law_at", 9)]) (g := gName 9) (te := tOp (rIxL K) (tVar 5) (tVar 9)) (by rfl) scRd.nd rfl (by rfl) (by rfl) (pi_list (pv 6))
        (blkOk_by (own := [("_law_at", 9)]) (N := ["_law_wide", "_law_one", "_law_tree", "_law_home", "_law_gone", "_law_ring", "_law_steps", "_law_passed", "_law_hands", "_law_at", "_law_bit"]) (sc := defScope sRd) (by decide +kernel)) (fun _ _ _ _ _ => pg_name (i := 9) scRd.nd rfl (Or.inl rfl))
        (fun _ _ _ _ _ => pts_nil) (fun _ _ _ _ _ => pe_ix ix_list (pv 5) (pv 9) (fun _ _ => rfl)))
      (pss_cons (ps_if (pt_cmpR op_eq (pe_op op_modNN (pe_op op_shrNN (pv 4) (pv 2)) pe_int) pe_int (nomark _)) (pss_one (ps_par (i := 7) (j := 6) (by rfl) scRd.nd rfl rfl (by decide) rfl rfl (pa_cons (pe_op op_cat (pv 7) (pe_lst (pa_cons (pv 2) pa_nil))) (pa_cons (pe_op op_cat (pv 6) (pe_lst (pa_cons (pv 0) pa_nil))) pa_nil)) (by rfl))) pss_nil)
      (pss_cons (ps_set (i := 8) scRd.nd rfl (.inl rfl) (pe_lst (pa_cons (pv 3) pa_nil)))
      (pss_cons (ps_for PassesOwn.never rfl (pi_list (pv 7)) (pg_name (i := 10) scRd.nd rfl (.inl rfl))
        (pss_one (ps_expr (pe_bm PySem.F.plainAttrs_list PySem.F.slot_list_append PySem.F.type_list_append mt_append (pv 8) (pa_cons (pe_op op_xorN (pe_ix ix_list (pv 8) (pe_un un_neg pe_int) (fun _ _ => rfl)) (pe_op op_bit pe_int (pv 10))) pa_nil)))))
      (pss_one (ps_ret (pe_tup (pa_cons (pv 8) (pa_cons (pv 7) (pa_cons (pv 6) pa_nil)))))))))))), ?_⟩
    generalize ed : h ^^^ s0 = d at fin
    refine ⟨.int h, rfl, .int s0, rfl, h, s0, rfl, rfl, ?_⟩
    rw [ed]
    refine ⟨.int q, rfl, .int j, rfl, q, j, rfl, hq, hq6, fun H1 p1 s1 e1 => ?_⟩
    have ring : ∀ i, i < q → atI (nv (rgL q j q)) (i : Int) = some (.int ((j + i) % q : Nat)) := fun i hi => atI_nat (nv_at (by unfold rgL; rw [List.getElem?_map, List.getElem?_range hi]; rfl))
    refine ⟨.int q, rfl, _, rfl, by omega, by omega, fun S nS => lc_range (lo := 0) (fun i H' => Same H1 H' ∧ H' S = some (.lst (nv (stF q d j i)))) ⟨same_new (Same.refl H1) nS, upd_same⟩ ?_ ?_⟩
    · rintro i H2 hi ⟨s2, eS⟩
      rw [show (0 : Int) + (i : Int) = ((i : Nat) : Int) by omega]
      have hi : i < q := by omega
      have hsu := stF_succ q d j i
      have put : ∀ b : Bool, (decide (i = 0) || d.testBit ((j + i) % q)) = b → if b = true then ∃ acc, H2 S = some (.lst acc) ∧ acc.length < sizeLine ∧ Same H1 (upd H2 S (.lst (acc ++ [V.int (i : Nat)]))) ∧ (upd H2 S (.lst (acc ++ [V.int (i : Nat)]))) S = some (.lst (nv (stF q d j (i + 1)))) else Same H1 H2 ∧ H2 S = some (.lst (nv (stF q d j (i + 1)))) := fun b e => by
        rw [e] at hsu
        cases b with
        | true =>
          refine iteT ⟨_, eS, ?_, fun b o z => ?_, ?_⟩
          · rw [nv_len]
            have := stF_len q d j i
            exact small1000 (by omega)
          · rw [upd_ne (ne_of_none z nS)]
            exact s2 b o z
          · rw [upd_same, hsu, if_pos rfl]
            simp [nv]
        | false =>
          refine iteF ⟨s2, ?_⟩
          rw [eS, hsu, if_neg (by decide), List.append_nil]
      refine ⟨rfl, .int (i : Nat), rfl, rfl, _, rfl, ?_⟩
      by_cases z : i = 0
      · subst z
        rw [decide_eq_true (show V.int ((0 : Nat) : Int) = V.int 0 from rfl)]
        refine iteT ?_
        have := put true (by simp)
        rw [if_pos rfl] at this
        exact iteT ⟨_, rfl, this⟩
      · rw [decide_eq_false (show ¬ V.int ((i : Nat) : Int) = V.int 0 from fun e => z (by have := V.int.inj e; omega))]
        refine iteF ⟨.int (d : Nat), rfl, .ref p1, rfl, .int (i : Nat), rfl, p1, _, _, _, rfl, rfl, .inl (.inl (s2 _ _ e1)), ring i hi, d, (j + i) % q, rfl, rfl, d / 2 ^ ((j + i) % q), 2, rfl, rfl, by decide, rfl, _, rfl, ?_⟩
        rw [bitM]
        have := put (d.testBit ((j + i) % q)) (by rw [decide_eq_false z, Bool.false_or])
        cases b : d.testBit ((j + i) % q) with
        | true =>
          rw [b, if_pos rfl] at this
          exact iteT ⟨_, rfl, this⟩
        | false =>
          rw [b, if_neg (by decide)] at this
          exact iteF this
    · rintro H2 ⟨s2, eS⟩
      have eS : H2 S = some (.lst (nv (stF q d j q))) := eS
      have e12 := s2 _ _ e1
      refine ⟨.ref S, rfl, S, rfl, ⟨_, .inl (.inl eS)⟩, fun B nB => lc_list (xs := nv (stF q d j q)) (fun r H' => Same H2 H' ∧ H' B = some (.lst (nv (((stF q d j q).take r).map fun i => (j + i) % q)))) ⟨same_new (Same.refl H2) nB, upd_same⟩ (fun r H' _ z => .inl (.inl (z.1 _ _ eS))) ?_ ?_⟩
      · rintro r x H3 hx ⟨s3, eB⟩
        obtain ⟨n, hn, rfl⟩ := nv_get' hx
        have hnq : n < q := by
          have := List.mem_of_getElem? hn
          unfold stF at this
          exact List.mem_range.mp (List.mem_filter.mp this).1
        refine ⟨rfl, yes ⟨.ref p1, rfl, .int (n : Nat), rfl, p1, _, _, _, rfl, rfl, .inl (.inl (s3 _ _ e12)), ring n hnq, _, eB, ?_, fun b o z => ?_, ?_⟩⟩
        · rw [nv_len, List.length_map, List.length_take]
          have := stF_len q d j q
          exact small1000 (by omega)
        · rw [upd_ne (ne_of_none z nB)]
          exact s3 b o z
        · rw [upd_same, List.take_add_one, hn]
          simp [nv]
      · rintro H3 ⟨s3, eB⟩
        rw [nv_len, List.take_length, st_all hj] at eB
        have eS3 := s3 _ _ eS
        have sH3 : Same H H3 := (s1.trans s2).trans s3
        refine ⟨.int (d : Nat), rfl, .int j, rfl, d, j, rfl, rfl, d / 2 ^ j, 2, rfl, rfl, by decide, rfl, _, rfl, ?_⟩
        rw [bitM0]
        have hcl : cl q d j = j :: tp q d j (q - 1) ++ (if d.testBit j = true then [] else [j]) := rfl
        have hlt := tp_len q d j (q - 1)
        have hst := stF_len q d j q
        cases b : d.testBit j with
        | true =>
          rw [b, if_pos rfl, List.append_nil] at hcl
          refine iteF ?_
          rw [← hcl] at eB
          refine ⟨.int s0, rfl, (by show 1 ≤ sizeLine; decide), fun W nW => ?_⟩
          have eP' : (upd H3 W (.lst [V.int (s0 : Nat)])) B = some (.lst (nv (cl q d j))) := by rw [upd_ne (ne_of_none eB nW)]; exact eB
          refine ⟨.ref B, rfl, B, rfl, ⟨_, .inl (.inl eP')⟩, for_list (xs := nv (cl q d j)) (fun i σ H' => ∃ ya yb, σ = [some (.int q), some (.int h), some (.int j), some (.int s0), some (.int (d : Nat)), some (.ref p1), some (.ref S), some (.ref B), some (.ref W), ya, yb] ∧ Same H3 H' ∧ H' W = some (.lst (nv (wl s0 ((cl q d j).take i))))) ⟨_, _, rfl, same_new (Same.refl _) nW, by rw [upd_same]; rfl⟩ (fun i σ H' _ z => by obtain ⟨_, _, _, z1, _⟩ := z; exact .inl (.inl (z1 _ _ eB))) ?_ ?_⟩
          · rintro i x σ H5 hx ⟨ya, yb, rfl, s5, eW⟩
            obtain ⟨n, hn, rfl⟩ := nv_get' hx
            have hnq : n < q := cl_lt hj (List.mem_of_getElem? hn)
            obtain ⟨l0, el⟩ := wl_last s0 ((cl q d j).take i)
            refine ⟨.ref W, rfl, .inl ⟨rfl, _, .inl (.inl eW)⟩, .ref W, rfl, 1, rfl, W, _, -1, .int (wf s0 ((cl q d j).take i) : Nat), rfl, rfl, .inl (.inl eW), by rw [el]; exact nv_last, .int (n : Nat), rfl, n, rfl, rfl, by omega, wf s0 ((cl q d j).take i), 2 ^ n, rfl, rfl, W, _, _, rfl, rfl, eW, ?_, ?_⟩
            · rw [nv_len, wl_len, List.length_take]
              have := cl_len q d j hq
              exact small1000 (by omega)
            · refine ⟨_, _, rfl, fun b o z => ?_, ?_⟩
              · rw [upd_ne (ne_of_none z nW)]
                exact s5 b o z
              · rw [upd_same, wl_step hn]
                simp [nv]
          · rintro σ H5 ⟨ya, yb, rfl, s5, eW⟩
            rw [nv_len, List.take_length] at eW
            refine ⟨.ref W, rfl, .ref B, rfl, .ref S, rfl, (by show 3 ≤ sizeLine; decide), fun t nt => ?_⟩
            exact fin _ t W _ _ (same_new (sH3.trans s5) nt) (sH3.free nW) upd_same (by rw [upd_ne (ne_of_none eW nt)]; exact eW)
        | false =>
          rw [b, if_neg (by decide)] at hcl
          refine iteT ⟨.ref B, rfl, .int j, rfl, (by show 1 ≤ sizeLine; decide), fun L1 n1 => ?_⟩
          have eB1 : (upd H3 L1 (.lst [V.int (j : Nat)])) B = some (.lst (nv (j :: tp q d j (q - 1)))) := by rw [upd_ne (ne_of_none eB n1)]; exact eB
          refine ⟨B, L1, _, _, rfl, rfl, eB1, upd_same, ?_, fun L2 n2 => ?_⟩
          · rw [nv_len, List.length_cons]
            exact Nat.le_of_lt (small1000 (by show _ + 1 + 1 ≤ 1000; omega))
          have s4 : Same H3 (upd (upd H3 L1 (.lst [V.int (j : Nat)])) L2 (.lst (nv (j :: tp q d j (q - 1)) ++ [V.int (j : Nat)]))) := same_new (same_new (Same.refl H3) n1) n2
          have e2 : (upd (upd H3 L1 (.lst [V.int (j : Nat)])) L2 (.lst (nv (j :: tp q d j (q - 1)) ++ [V.int (j : Nat)]))) L2 = some (.lst (nv (cl q d j))) := by
            rw [upd_same, hcl]
            simp [nv]
          generalize upd (upd H3 L1 (.lst [V.int (j : Nat)])) L2 (.lst (nv (j :: tp q d j (q - 1)) ++ [V.int (j : Nat)])) = H4 at *
          have eS4 := s4 _ _ eS3
          refine ⟨.ref S, rfl, .int q, rfl, (by show 1 ≤ sizeLine; decide), fun L3 n3 => ?_⟩
          have eS5 : (upd H4 L3 (.lst [V.int (q : Nat)])) S = some (.lst (nv (stF q d j q))) := by rw [upd_ne (ne_of_none eS4 n3)]; exact eS4
          refine ⟨S, L3, _, _, rfl, rfl, eS5, upd_same, ?_, fun L4 n4 => ⟨_, _, rfl, ?_⟩⟩
          · rw [nv_len]
            exact Nat.le_of_lt (small1000 (by show _ + 1 ≤ 1000; omega))
          have s6 : Same H4 (upd (upd H4 L3 (.lst [V.int (q : Nat)])) L4 (.lst (nv (stF q d j q) ++ [V.int (q : Nat)]))) := same_new (same_new (Same.refl H4) n3) n4
          have e6 := s6 _ _ e2
          have sH6 := (sH3.trans s4).trans s6
          generalize upd (upd H4 L3 (.lst [V.int (q : Nat)])) L4 (.lst (nv (stF q d j q) ++ [V.int (q : Nat)])) = H6 at *
          refine ⟨.int s0, rfl, (by show 1 ≤ sizeLine; decide), fun W nW => ?_⟩
          have eP' : (upd H6 W (.lst [V.int (s0 : Nat)])) L2 = some (.lst (nv (cl q d j))) := by rw [upd_ne (ne_of_none e6 nW)]; exact e6
          refine ⟨.ref L2, rfl, L2, rfl, ⟨_, .inl (.inl eP')⟩, for_list (xs := nv (cl q d j)) (fun i σ H' => ∃ ya yb, σ = [some (.int q), some (.int h), some (.int j), some (.int s0), some (.int (d : Nat)), some (.ref p1), some (.ref L4), some (.ref L2), some (.ref W), ya, yb] ∧ Same H6 H' ∧ H' W = some (.lst (nv (wl s0 ((cl q d j).take i))))) ⟨_, _, rfl, same_new (Same.refl _) nW, by rw [upd_same]; rfl⟩ (fun i σ H' _ z => by obtain ⟨_, _, _, z1, _⟩ := z; exact .inl (.inl (z1 _ _ e6))) ?_ ?_⟩
          · rintro i x σ H5 hx ⟨ya, yb, rfl, s5, eW⟩
            obtain ⟨n, hn, rfl⟩ := nv_get' hx
            have hnq : n < q := cl_lt hj (List.mem_of_getElem? hn)
            obtain ⟨l0, el⟩ := wl_last s0 ((cl q d j).take i)
            refine ⟨.ref W, rfl, .inl ⟨rfl, _, .inl (.inl eW)⟩, .ref W, rfl, 1, rfl, W, _, -1, .int (wf s0 ((cl q d j).take i) : Nat), rfl, rfl, .inl (.inl eW), by rw [el]; exact nv_last, .int (n : Nat), rfl, n, rfl, rfl, by omega, wf s0 ((cl q d j).take i), 2 ^ n, rfl, rfl, W, _, _, rfl, rfl, eW, ?_, ?_⟩
            · rw [nv_len, wl_len, List.length_take]
              have := cl_len q d j hq
              exact small1000 (by omega)
            · refine ⟨_, _, rfl, fun b o z => ?_, ?_⟩
              · rw [upd_ne (ne_of_none z nW)]
                exact s5 b o z
              · rw [upd_same, wl_step hn]
                simp [nv]
          · rintro σ H5 ⟨ya, yb, rfl, s5, eW⟩
            rw [nv_len, List.take_length] at eW
            refine ⟨.ref W, rfl, .ref L2, rfl, .ref L4, rfl, (by show 3 ≤ sizeLine; decide), fun t nt => ?_⟩
            exact fin _ t W _ _ (same_new (sH6.trans s5) nt) (sH6.free nW) upd_same (by rw [upd_ne (ne_of_none eW nt)]; exact eW)
/-! ### spoils -/
theorem scSo : FnScope ["_law_wide", "_law_one", "_law_shut", "_law_home", "_law_found", "_law_tree", "_law_hands", "_law_other"] ["_law_wide", "_law_one", "_law_shut", "_law_home"] (defScope sSo) := ⟨rfl, rfl, rfl, by decide +kernel, rfl, by decide +kernel, by decide +kernel⟩
def spSo : Sp := fun vs H Q _ => ∃ (q h s : Nat) (a : Addr) (os : List Nat), vs = [.int q, .int h, .ref a, .int s] ∧ 0 < q ∧ q ≤ 60 ∧ h < 2 ^ q ∧ s < 2 ^ q ∧ (∀ o ∈ os, o < 2 ^ q) ∧ H a = some (.tup (nv os)) ∧ ∀ H' p, Same H H' → H' p = some (.lst (nv (spF q h s os q))) → Q (.ref p) H'
theorem ok_so (F : Fun K "_law_spoils" "_law_spoils" sSo f fd) (GRd : FnOk P w K mg base CX0 2 fRd fdRd ["_law_wide", "_law_one", "_law_tree", "_law_home"] spRd) (kRd : PySem.W.keepIn K (.ref fRd) = true) (bRd : Binds K fdRd ["_law_wide", "_law_one", "_law_tree", "_law_home"] []) (gRd : mg "_law_road" = some (.ref fRd)) (mr : mg "range" = none) (ma : mg "any" = none) :
    FnOk P w K mg base CX0 3 f fd ["_law_wide", "_law_one", "_law_shut", "_law_home"] spSo := by
  refine F.ok scSo (fun vs H Q E h => ?_) (fun cdv A outer s H vs Q E hr h => ?_)
  · obtain ⟨a, b, c, d, e, rfl, _⟩ := h
    rfl
  · obtain ⟨q, h, s0, a, os, rfl, hq, hq6, hh, hs, hos, hS, fin⟩ := h
    refine ⟨_, pss_cons (ps_set (i := 4) scSo.nd rfl (.inl rfl) (pe_lst pa_nil))
      (pss_cons (ps_for PassesOwn.never rfl (pi_range1 (by rfl) mr (pa_cons (pv 0) pa_nil)) (pg_name (i := 5) scSo.nd rfl (.inl rfl))
        (pss_cons (ps_set (i := 6) scSo.nd rfl (.inl rfl) (pe_slice sl_list (pe_ix ix_tup (pe_call GRd (hr.mono (by decide)) (by rfl) gRd kRd bRd .nil pass0 (pa_cons (pv 0) (pa_cons (pv 1) (pa_cons (pv 5) (pa_cons (pv 3) pa_nil))))) pe_int (fun _ _ => rfl)) (po_some pe_int) (po_some (pe_un un_neg pe_int))))
        (pss_one (ps_if (pt_val (pe_callB (cr_any rfl) (by rfl) ma (by decide +kernel) (pa_cons (pe_lc (own := [("_law_other", 7)]) (g := gName 7) (te := tOp (rIn K false) (tVar 7) (tVar 2)) (by rfl) scSo.nd (pi_list (pv 6))
        (blkOk_by (own := [("_law_other", 7)]) (N := ["_law_wide", "_law_one", "_law_shut", "_law_home", "_law_found", "_law_tree", "_law_hands", "_law_other"]) (sc := defScope sSo) (by decide +kernel)) (fun _ _ _ _ _ => pg_name (i := 7) scSo.nd rfl (Or.inl rfl))
        (fun _ _ _ _ _ => pts_nil) (fun _ _ _ _ _ => pe_cmpR op_in_seq (pv 7) (pv 2) (by rfl))) pa_nil)))
          (pss_one (ps_expr (pe_bm PySem.F.plainAttrs_list PySem.F.slot_list_append PySem.F.type_list_append mt_append (pv 4) (pa_cons (pv 5) pa_nil)))) pss_nil))))
      (pss_one (ps_ret (pv 4)))), ?_⟩
    refine ⟨(by show 0 ≤ sizeLine; decide), fun D nD => ?_⟩
    refine ⟨.int q, rfl, _, rfl, by omega, by omega, for_range (lo := 0) (fun i σ H' => ∃ y5 y6 y7, σ = [some (.int q), some (.int h), some (.ref a), some (.int s0), some (.ref D), y5, y6, y7] ∧ Same H H' ∧ H' D = some (.lst (nv (spF q h s0 os i)))) ⟨none, none, none, rfl, same_new (Same.refl H) nD, by rw [upd_same]; rfl⟩ ?_ ?_⟩
    · rintro i σ H1 hi ⟨y5, y6, y7, rfl, sm, eD⟩
      rw [show (0 : Int) + (i : Int) = ((i : Nat) : Int) by omega]
      have hiq : i < q := by omega
      refine ⟨.int q, rfl, .int h, rfl, .int (i : Nat), rfl, .int s0, rfl, q, h, i, s0, rfl, hq, hq6, hiq, fun H2 p2 W x y s2 _ e2 eW => ?_⟩
      refine ⟨p2, _, 0, .ref W, rfl, rfl, .inl (.inl e2), rfl, _, rfl, 1, rfl, _, rfl, W, _, rfl, .inl (.inl eW), fun p3 n3 => ?_⟩
      rw [nv_mid (by rw [wl_len]; omega)]
      have e3 : (upd H2 p3 (.lst (nv (mid q h s0 i)))) p3 = some (.lst (nv (mid q h s0 i))) := upd_same
      have s3 : Same H2 (upd H2 p3 (.lst (nv (mid q h s0 i)))) := same_new (Same.refl H2) n3
      have em0 : (wl s0 (cl q (h ^^^ s0) i)).tail.dropLast = mid q h s0 i := rfl
      rw [em0]
      generalize upd H2 p3 (.lst (nv (mid q h s0 i))) = H3 at *
      have hS3 := s3 _ _ (s2 _ _ (sm _ _ hS))
      have eD3 := s3 _ _ (s2 _ _ eD)
      refine ⟨.ref p3, rfl, p3, rfl, ⟨_, .inl (.inl e3)⟩, fun G nG => lc_list (xs := nv (mid q h s0 i)) (fun r H' => Same H3 H' ∧ H' G = some (.lst ((((mid q h s0 i).take r).map fun p => decide (p ∈ os)).map V.bl))) ⟨same_new (Same.refl H3) nG, upd_same⟩ (fun r H' _ z => .inl (.inl (z.1 _ _ e3))) ?_ ?_⟩
      · rintro r v H4 hv ⟨s4, eG⟩
        obtain ⟨n, hn, rfl⟩ := nv_get' hv
        refine ⟨rfl, yes ⟨_, rfl, .ref a, rfl, a, _, rfl, .inr (.inl (.inl (s4 _ _ hS3))), rfl, flat_nv os, _, eG, ?_, fun b o z => ?_, ?_⟩⟩
        · rw [List.length_map, List.length_map, List.length_take]
          refine small1000 ?_
          have : (mid q h s0 i).length ≤ (cl q (h ^^^ s0) i).length := by
            unfold mid
            rw [List.length_dropLast, List.length_tail, wl_len]
            omega
          have := cl_len q (h ^^^ s0) i hq
          omega
        · rw [upd_ne (ne_of_none z nG)]
          exact s4 b o z
        · rw [upd_same, List.take_add_one, hn, List.map_append, List.map_append]
          show _ = some (HO.lst (_ ++ [V.bl (decide (n ∈ os))]))
          rw [← in_nvD]
          rfl
      · rintro H4 ⟨s4, eG⟩
        rw [nv_len, List.take_length] at eG
        refine ⟨G, _, rfl, .inl (.inl eG), _, rfl, ?_⟩
        rw [List.any_map]
        have em := mid_any hq hiq hh hs hos
        have hsu := spF_succ q h s0 os i
        rw [← em] at hsu
        have eD4 := s4 _ _ eD3
        show if ((mid q h s0 i).any fun p => decide (p ∈ os)) = true then _ else _
        cases b : (mid q h s0 i).any fun p => decide (p ∈ os) with
        | true =>
          rw [b, if_pos rfl] at hsu
          refine iteT ⟨.ref D, rfl, .inl ⟨rfl, _, .inl (.inl eD4)⟩, .int (i : Nat), rfl, D, _, _, rfl, rfl, eD4, ?_, ?_⟩
          · rw [nv_len]
            have := spF_len q h s0 os i
            exact small1000 (by omega)
          · refine ⟨_, _, _, rfl, fun b' o z => ?_, ?_⟩
            · rw [upd_ne (ne_of_none z nD)]
              exact s4 b' o (s3 b' o (s2 b' o (sm b' o z)))
            · rw [upd_same, hsu]
              simp [nv]
        | false =>
          rw [b, if_neg (by decide), List.append_nil] at hsu
          exact iteF ⟨_, _, _, rfl, ((sm.trans s2).trans s3).trans s4, by rw [eD4, hsu]⟩
    · rintro σ H1 ⟨y5, y6, y7, rfl, sm, eD⟩
      have eD : H1 D = some (.lst (nv (spF q h s0 os q))) := eD
      exact ⟨.ref D, rfl, fin _ D sm eD⟩
end
end Bf
namespace Bf
open PySem PySem.Spec PyProof.Rows L2 LamX NdefX

theorem perm_nat {ns' : List Int} {l : List Nat} (hp : ns'.Perm (l.map fun (n : Nat) => (n : Int))) : ∃ zs : List Nat, ns' = zs.map (fun (n : Nat) => (n : Int)) ∧ zs.Perm l := by
  refine ⟨ns'.map Int.toNat, ?_, ?_⟩
  · rw [List.map_map]
    have : ∀ x ∈ ns', ((fun (n : Nat) => (n : Int)) ∘ Int.toNat) x = x := fun x hx => by
      obtain ⟨n, _, rfl⟩ := List.mem_map.mp (hp.mem_iff.mp hx)
      rfl
    rw [List.map_congr_left this, List.map_id']
  · have h := hp.map Int.toNat
    rw [List.map_map] at h
    have e : l.map (Int.toNat ∘ fun (n : Nat) => (n : Int)) = l := by
      have : ∀ x ∈ l, (Int.toNat ∘ fun (n : Nat) => (n : Int)) x = x := fun x _ => rfl
      rw [List.map_congr_left this, List.map_id']
    rw [e] at h
    exact h
theorem nv_ints (l : List Nat) : nv l = (l.map fun (n : Nat) => (n : Int)).map V.int := by
  unfold nv
  rw [List.map_map]
  rfl
theorem wl_in {q s : Nat} {ks : List Nat} (hs : s < 2 ^ q) (hk : ∀ k ∈ ks, k < q) : ∀ n ∈ wl s ks, n < 2 ^ q := fun n hn => by
  unfold wl at hn
  obtain ⟨i, _, rfl⟩ := List.mem_map.mp hn
  exact wf_lt hs fun k hk2 => hk k (List.mem_of_mem_take hk2)
theorem potU {H : Hp} {a p : Addr} {n : Nat} {o : HO} (h : Pot H a n) (hp : a ≠ p) : Pot (upd H p o) a n := let ⟨x, y, z, h1, h2⟩ := h; ⟨x, y, z, by rw [upd_ne hp]; exact h1, h2⟩
theorem rd_ifD {tt : TT} {ta tb : TE} {σ : L2.St} {H : Hp} {Q : VK} (T : Bool → Hp → Prop) (R : V → Hp → Prop) (h0 : ∀ Q' : Bool → Hp → Prop, (∀ b H', T b H' → Q' b H') → tt σ H Q') (h1 : ∀ H', T true H' → ∀ Q' : VK, (∀ v H'', R v H'' → Q' v H'') → ta σ H' Q') (h2 : ∀ H', T false H' → ∀ Q' : VK, (∀ v H'', R v H'' → Q' v H'') → tb σ H' Q') (h : ∀ v H', R v H' → Q v H') : tIf tt ta tb σ H Q := by
  refine h0 _ fun b H' t => ?_
  cases b with
  | true => exact iteT (h1 H' t _ h)
  | false => exact iteF (h2 H' t _ h)
theorem rd_ifX {tt : TT} {te : TE} {D : Ends} {σ : L2.St} {H : Hp} (b : Bool) (R : Hp → Prop) (h0 : ∀ Q' : Bool → Hp → Prop, Q' b H → tt σ H Q') (h1 : b = true → ∀ Q : VK, (∀ v H', R H' → Q v H') → te σ H Q) (h2 : b = false → R H) (h : ∀ H', R H' → D.nx σ H') : tIfS tt (tDrop te) tNext D σ H := by
  refine h0 _ ?_
  cases b with
  | true => exact iteT (h1 rfl _ fun v H' r => h H' r)
  | false => exact iteF (h H (h2 rfl))
section
variable {P : Program} {w : World} {K : PySem.W.Frag} {mg : Str → Option Value} {base : Heap} {f fT fO fRd fWi fOr fHn fSh fSo fCm fP fRi : Addr} {fd fdT fdO fdRd fdWi fdOr fdHn fdSh fdSo fdCm fdP fdRi : FuncData} {k : Nat} {dsC : List Value}
structure Dr (P : Program) (w : World) (K : PySem.W.Frag) (mg : Str → Option Value) (base : Heap) (fT fO : Addr) (fdT fdO : FuncData) : Prop where
  GT : FnOk P w K mg base CX0 1 fT fdT ["_law_pot", "_law_size"] spTake
  kT : PySem.W.keepIn K (.ref fT) = true
  bT : Binds K fdT ["_law_pot", "_law_size"] []
  gT : mg "_law_take" = some (.ref fT)
  GO : FnOk P w K mg base CX0 2 fO fdO ["_law_pot", "_law_some"] (spOf K)
  kO : PySem.W.keepIn K (.ref fO) = true
  bO : Binds K fdO ["_law_pot", "_law_some"] []
  gO : mg "_law_of" = some (.ref fO)
/-! ### width, origin, hand -/
theorem scWi : FnScope ["_law_pot", "_law_most", "_law_some"] ["_law_pot", "_law_most"] (defScope sWi) := ⟨rfl, rfl, rfl, by decide +kernel, rfl, by decide +kernel, by decide +kernel⟩
def spWi : Sp := fun vs H Q _ => ∃ (a : Addr) (m : Nat), vs = [.ref a, .int 60] ∧ Pot H a m ∧ m < 90000 ∧ ∀ (r : Nat) H', 2 ≤ r → r ≤ 60 → Keeps a H H' → Pot H' a (m + 2) → Q (.int r) H'
theorem ok_wi (F : Fun K "_law_width" "_law_width" sWi f fd) (T : Dr P w K mg base fT fO fdT fdO) (mn : mg "min" = none) : FnOk P w K mg base CX0 3 f fd ["_law_pot", "_law_most"] spWi := by
  refine F.ok scWi (fun vs H Q E h => ?_) (fun cdv A outer s H vs Q E hr h => ?_)
  · obtain ⟨a, m, rfl, _⟩ := h
    rfl
  · obtain ⟨a, m, rfl, hp, hm, fin⟩ := h
    refine ⟨_, pss_cons (ps_set (i := 2) scWi.nd rfl (.inl rfl) (pe_lst (pa_cons pe_int (pa_cons pe_int (pa_cons pe_int (pa_cons pe_int (pa_cons pe_int (pa_cons (pe_callB (call_min2 rfl) (by rfl) mn (by decide +kernel) (pa_cons (pv 1) (pa_cons pe_int pa_nil))) (pa_cons (pe_callB (call_min2 rfl) (by rfl) mn (by decide +kernel) (pa_cons (pv 1) (pa_cons pe_int pa_nil))) (pa_cons (pv 1) pa_nil))))))))))
      (pss_one (ps_ret (pe_call T.GO (hr.mono (by decide)) (by rfl) T.gO T.kO T.bO .nil pass0 (pa_cons (pv 0) (pa_cons (pe_op op_cat (pv 2) (pe_lst (pa_cons (pe_op op_addN pe_int (pe_call T.GT (hr.mono (by decide)) (by rfl) T.gT T.kT T.bT .nil pass0 (pa_cons (pv 0) (pa_cons (pe_op op_sub (pv 1) pe_int) pa_nil)))) pa_nil))) pa_nil))))), ?_⟩
    refine ⟨.int 60, rfl, _, _, rfl, .int 60, rfl, _, _, rfl, .int 60, rfl, (by show 8 ≤ sizeLine; decide), fun L nL => ?_⟩
    have hLa : L ≠ a := pot_ne hp nL
    refine ⟨.ref a, rfl, .ref L, rfl, .ref a, rfl, .int 60, rfl, _, _, rfl, rfl, a, 59, m, rfl, by decide, by decide, hp.new nL, by omega, fun r H1 l1 k1 p1 => ?_⟩
    have eL := k1 L _ hLa upd_same
    refine ⟨2, r, rfl, rfl, (by show 1 ≤ sizeLine; decide), fun L2 n2 => ⟨L, L2, _, _, rfl, rfl, by rw [upd_ne (ne_of_none eL n2)]; exact eL, upd_same, (by show 8 + 1 ≤ sizeLine; decide), fun L3 n3 => ?_⟩⟩
    refine ⟨a, L3, _, m + 1, rfl, fun H' kp => .inl (.inl (kp L3 _ (pot_ne (p1.new n2) n3) upd_same)), (by show 0 < 9; decide), (by show 9 < 1073741824; decide), (p1.new n2).new n3, by omega, fun v H4 hv k4 p4 => ?_⟩
    obtain ⟨g, rfl, g1, g2⟩ : ∃ g : Nat, v = .int (g : Int) ∧ 2 ≤ g ∧ g ≤ 60 := by
      simp only [List.cons_append, List.nil_append, List.mem_cons, List.not_mem_nil, or_false] at hv
      rcases hv with rfl | rfl | rfl | rfl | rfl | rfl | rfl | rfl | rfl
      · exact ⟨2, rfl, by decide, by decide⟩
      · exact ⟨3, rfl, by decide, by decide⟩
      · exact ⟨4, rfl, by decide, by decide⟩
      · exact ⟨5, rfl, by decide, by decide⟩
      · exact ⟨6, rfl, by decide, by decide⟩
      · exact ⟨8, rfl, by decide, by decide⟩
      · exact ⟨31, rfl, by decide, by decide⟩
      · exact ⟨60, rfl, by decide, by decide⟩
      · exact ⟨2 + r, rfl, by omega, by omega⟩
    exact fin g H4 g1 g2 ((((((Keeps.refl a H).new nL).trans k1).new n2).new n3).trans k4) p4
theorem scOr : FnScope ["_law_pot", "_law_wide"] ["_law_pot", "_law_wide"] (defScope sOr) := ⟨rfl, rfl, rfl, by decide +kernel, rfl, by decide +kernel, by decide +kernel⟩
def spOr : Sp := fun vs H Q _ => ∃ (a : Addr) (q m : Nat), vs = [.ref a, .int q] ∧ 0 < q ∧ q ≤ 60 ∧ Pot H a m ∧ m < 90000 ∧ ∀ (r : Nat) H', r < 2 ^ q → Keeps a H H' → Pot H' a (m + 2) → Q (.int r) H'
theorem pow60 {q : Nat} (h : q ≤ 60) : 2 ^ q < 2305843009213693952 := Nat.lt_of_le_of_lt (Nat.pow_le_pow_right (by decide) h) (by decide)
theorem ok_or (F : Fun K "_law_origin" "_law_origin" sOr f fd) (T : Dr P w K mg base fT fO fdT fdO) : FnOk P w K mg base CX0 3 f fd ["_law_pot", "_law_wide"] spOr := by
  refine F.ok scOr (fun vs H Q E h => ?_) (fun cdv A outer s H vs Q E hr h => ?_)
  · obtain ⟨a, b, m, rfl, _⟩ := h
    rfl
  · obtain ⟨a, q, m, rfl, hq, hq6, hp, hm, fin⟩ := h
    have h2q : 0 < 2 ^ q := Nat.two_pow_pos q
    refine ⟨_, pss_one (ps_ret (pe_call T.GO (hr.mono (by decide)) (by rfl) T.gO T.kO T.bO .nil pass0 (pa_cons (pv 0) (pa_cons (pe_lst (pa_cons pe_int (pa_cons pe_int (pa_cons (pe_op op_subN (pe_op op_bit pe_int (pv 1)) pe_int) (pa_cons (pe_call T.GT (hr.mono (by decide)) (by rfl) T.gT T.kT T.bT .nil pass0 (pa_cons (pv 0) (pa_cons (pe_op op_bit pe_int (pv 1)) pa_nil))) pa_nil))))) pa_nil)))), ?_⟩
    refine ⟨.ref a, rfl, .int q, rfl, q, rfl, rfl, by omega, 2 ^ q, 1, rfl, rfl, h2q, .ref a, rfl, .int q, rfl, q, rfl, rfl, by omega, a, 2 ^ q, m, rfl, h2q, pow60 hq6, hp, by omega, fun r H1 l1 k1 p1 => ?_⟩
    refine ⟨(by show 4 ≤ sizeLine; decide), fun L nL => ?_⟩
    refine ⟨a, L, _, m + 1, rfl, fun H' kp => .inl (.inl (kp L _ (pot_ne p1 nL) upd_same)), (by show 0 < 4; decide), (by show 4 < 1073741824; decide), p1.new nL, by omega, fun v H4 hv k4 p4 => ?_⟩
    obtain ⟨g, rfl, g1⟩ : ∃ g : Nat, v = .int (g : Int) ∧ g < 2 ^ q := by
      simp only [List.mem_cons, List.not_mem_nil, or_false] at hv
      rcases hv with rfl | rfl | rfl | rfl
      · exact ⟨0, rfl, h2q⟩
      · exact ⟨0, rfl, h2q⟩
      · exact ⟨2 ^ q - 1, rfl, by omega⟩
      · exact ⟨r, rfl, l1⟩
    exact fin g H4 g1 ((k1.new nL).trans k4) p4
theorem scHn : FnScope ["_law_pot", "_law_wide", "_law_home", "_law_full", "_law_some", "_law_one"] ["_law_pot", "_law_wide", "_law_home"] (defScope sHn) := ⟨rfl, rfl, rfl, by decide +kernel, rfl, by decide +kernel, by decide +kernel⟩
def spHn : Sp := fun vs H Q _ => ∃ (a : Addr) (q s m : Nat), vs = [.ref a, .int q, .int s] ∧ 0 < q ∧ q ≤ 60 ∧ s < 2 ^ q ∧ Pot H a m ∧ m < 90000 ∧ ∀ (r : Nat) H', r < 2 ^ q → Keeps a H H' → Pot H' a (m + 4) → Q (.int r) H'
theorem ok_hn (F : Fun K "_law_hand" "_law_hand" sHn f fd) (T : Dr P w K mg base fT fO fdT fdO) : FnOk P w K mg base CX0 3 f fd ["_law_pot", "_law_wide", "_law_home"] spHn := by
  refine F.ok scHn (fun vs H Q E h => ?_) (fun cdv A outer s H vs Q E hr h => ?_)
  · obtain ⟨a, b, c, m, rfl, _⟩ := h
    rfl
  · obtain ⟨a, q, s0, m, rfl, hq, hq6, hs, hp, hm, fin⟩ := h
    have h2q : 0 < 2 ^ q := Nat.two_pow_pos q
    have hfu : 2 ^ q - 1 < 2 ^ q := by omega
    refine ⟨_, pss_cons (ps_set (i := 3) scHn.nd rfl (.inl rfl) (pe_op op_subN (pe_op op_bit pe_int (pv 1)) pe_int))
      (pss_cons (ps_set (i := 4) scHn.nd rfl (.inl rfl) (pe_lst (pa_cons (pe_op op_bit pe_int (pe_call T.GT (hr.mono (by decide)) (by rfl) T.gT T.kT T.bT .nil pass0 (pa_cons (pv 0) (pa_cons (pv 1) pa_nil)))) (pa_cons (pv 3) (pa_cons (pe_op op_xorN (pv 3) (pe_op op_bit pe_int (pe_call T.GT (hr.mono (by decide)) (by rfl) T.gT T.kT T.bT .nil pass0 (pa_cons (pv 0) (pa_cons (pv 1) pa_nil))))) pa_nil)))))
      (pss_cons (ps_set (i := 5) scHn.nd rfl (.inl rfl) (pe_call T.GO (hr.mono (by decide)) (by rfl) T.gO T.kO T.bO .nil pass0 (pa_cons (pv 0) (pa_cons (pe_op op_cat (pv 4) (pe_lst (pa_cons (pe_call T.GT (hr.mono (by decide)) (by rfl) T.gT T.kT T.bT .nil pass0 (pa_cons (pv 0) (pa_cons (pe_op op_bit pe_int (pv 1)) pa_nil))) pa_nil))) pa_nil))))
      (pss_one (ps_ret (pe_op op_xorN (pv 2) (pe_ifExp (pt_cmpR op_ne (pv 5) pe_int (nomark _)) (pv 5) (pv 3))))))), ?_⟩
    refine ⟨.int q, rfl, q, rfl, rfl, by omega, 2 ^ q, 1, rfl, rfl, h2q, ?_⟩
    refine ⟨.ref a, rfl, .int q, rfl, a, q, m, rfl, hq, by omega, hp, by omega, fun r1 H1 l1 k1 p1 => ?_⟩
    refine ⟨r1, rfl, rfl, by omega, .int (2 ^ q - 1 : Nat), rfl, .int (2 ^ q - 1 : Nat), rfl, .ref a, rfl, .int q, rfl, a, q, m + 1, rfl, hq, by omega, p1, by omega, fun r2 H2 l2 k2 p2 => ?_⟩
    refine ⟨r2, rfl, rfl, by omega, 2 ^ q - 1, 2 ^ r2, rfl, rfl, (by show 3 ≤ sizeLine; decide), fun L nL => ?_⟩
    have hLa : L ≠ a := pot_ne p2 nL
    refine ⟨.ref a, rfl, .ref L, rfl, .ref a, rfl, .int q, rfl, q, rfl, rfl, by omega, a, 2 ^ q, m + 2, rfl, h2q, pow60 hq6, p2.new nL, by omega, fun r3 H3 l3 k3 p3 => ?_⟩
    have eL := k3 L _ hLa upd_same
    refine ⟨(by show 1 ≤ sizeLine; decide), fun L2 n2 => ⟨L, L2, _, _, rfl, rfl, by rw [upd_ne (ne_of_none eL n2)]; exact eL, upd_same, (by show 3 + 1 ≤ sizeLine; decide), fun L3 n3 => ?_⟩⟩
    refine ⟨a, L3, _, m + 3, rfl, fun H' kp => .inl (.inl (kp L3 _ (pot_ne (p3.new n2) n3) upd_same)), (by show 0 < 4; decide), (by show 4 < 1073741824; decide), (p3.new n2).new n3, by omega, fun v H4 hv k4 p4 => ?_⟩
    obtain ⟨g, rfl, g1⟩ : ∃ g : Nat, v = .int (g : Int) ∧ g < 2 ^ q := by
      simp only [List.cons_append, List.nil_append, List.mem_cons, List.not_mem_nil, or_false] at hv
      rcases hv with rfl | rfl | rfl | rfl
      · exact ⟨_, rfl, Nat.pow_lt_pow_right (by decide) l1⟩
      · exact ⟨_, rfl, hfu⟩
      · exact ⟨_, rfl, Nat.xor_lt_two_pow hfu (Nat.pow_lt_pow_right (by decide) l2)⟩
      · exact ⟨_, rfl, l3⟩
    refine ⟨.int s0, rfl, rd_ifD (fun b H' => H' = H4) (fun v H' => (∃ g : Nat, v = .int (g : Int) ∧ g < 2 ^ q) ∧ H' = H4) (fun Q' z => ⟨.int g, rfl, rfl, _, rfl, z _ _ rfl⟩) (fun H' e Q' z => ⟨_, rfl, z _ _ ⟨⟨g, rfl, g1⟩, e⟩⟩) (fun H' e Q' z => ⟨_, rfl, z _ _ ⟨⟨2 ^ q - 1, rfl, hfu⟩, e⟩⟩) ?_⟩
    rintro v H' ⟨⟨g, rfl, g1⟩, rfl⟩
    exact ⟨s0, g, rfl, rfl, fin _ _ (Nat.xor_lt_two_pow hs g1) (((((((k1.trans k2).new nL).trans k3).new n2).new n3).trans k4)) p4⟩
structure Dq (P : Program) (w : World) (K : PySem.W.Frag) (mg : Str → Option Value) (base : Heap) (fT fO fRd : Addr) (fdT fdO fdRd : FuncData) : Prop where
  GT : FnOk P w K mg base CX0 1 fT fdT ["_law_pot", "_law_size"] spTake
  kT : PySem.W.keepIn K (.ref fT) = true
  bT : Binds K fdT ["_law_pot", "_law_size"] []
  gT : mg "_law_take" = some (.ref fT)
  GO : FnOk P w K mg base CX0 2 fO fdO ["_law_pot", "_law_some"] (spOf K)
  kO : PySem.W.keepIn K (.ref fO) = true
  bO : Binds K fdO ["_law_pot", "_law_some"] []
  gO : mg "_law_of" = some (.ref fO)
  GRd : FnOk P w K mg base CX0 2 fRd fdRd ["_law_wide", "_law_one", "_law_tree", "_law_home"] spRd
  kRd : PySem.W.keepIn K (.ref fRd) = true
  bRd : Binds K fdRd ["_law_wide", "_law_one", "_law_tree", "_law_home"] []
  gRd : mg "_law_road" = some (.ref fRd)
/-! ### shut_ones -/
theorem scSh : FnScope ["_law_pot", "_law_wide", "_law_one", "_law_home", "_law_few", "_law_found", "_law_turn", "_law_hands", "_law_some", "_law_other"] ["_law_pot", "_law_wide", "_law_one", "_law_home", "_law_few"] (defScope sSh) := ⟨rfl, rfl, rfl, by decide +kernel, rfl, by decide +kernel, by decide +kernel⟩
def spSh : Sp := fun vs H Q _ => ∃ (a : Addr) (q h s n m : Nat), vs = [.ref a, .int q, .int h, .int s, .int n] ∧ 0 < q ∧ q ≤ 60 ∧ h < 2 ^ q ∧ s < 2 ^ q ∧ n ≤ 8 ∧ Pot H a m ∧ m < 80000 ∧ ∀ H' p zs, Keeps a H H' → Pot H' a (m + 48) → H' p = some (.tup (nv zs)) → (∀ z ∈ zs, z < 2 ^ q) → zs.length ≤ 8 → Q (.ref p) H'
theorem ok_sh (F : Fun K "_law_shut_ones" "_law_shut_ones" sSh f fd) (T : Dq P w K mg base fT fO fRd fdT fdO fdRd) (mr : mg "range" = none) (mt : mg "tuple" = none) (ms : mg "sorted" = none) : FnOk P w K mg base CX0 3 f fd ["_law_pot", "_law_wide", "_law_one", "_law_home", "_law_few"] spSh := by
  refine F.ok scSh (fun vs H Q E h => ?_) (fun cdv A outer s H vs Q E hr h => ?_)
  · obtain ⟨a, b, c, d, e, m, rfl, _⟩ := h
    rfl
  · obtain ⟨a, q, h, s0, n, m, rfl, hq, hq6, hh, hs, hn, hp, hm, fin⟩ := h
    have h2q : 0 < 2 ^ q := Nat.two_pow_pos q
    refine ⟨_, pss_cons (ps_set (i := 5) scSh.nd rfl (.inl rfl) (pe_lst pa_nil))
      (pss_cons (ps_for PassesOwn.never rfl (pi_range1 (by rfl) mr (pa_cons (pv 4) pa_nil)) (pg_name (i := 6) scSh.nd rfl (.inl rfl))
        (pss_cons (ps_set (i := 7) scSh.nd rfl (.inl rfl) (pe_ix ix_tup (pe_call T.GRd (hr.mono (by decide)) (by rfl) T.gRd T.kRd T.bRd .nil pass0 (pa_cons (pv 1) (pa_cons (pv 2) (pa_cons (pe_call T.GT (hr.mono (by decide)) (by rfl) T.gT T.kT T.bT .nil pass0 (pa_cons (pv 0) (pa_cons (pv 1) pa_nil))) (pa_cons (pv 3) pa_nil))))) pe_int (fun _ _ => rfl)))
        (pss_cons (ps_set (i := 8) scSh.nd rfl (.inl rfl) (pe_lst (pa_cons (pe_call T.GO (hr.mono (by decide)) (by rfl) T.gO T.kO T.bO .nil pass0 (pa_cons (pv 0) (pa_cons (pv 7) pa_nil))) (pa_cons (pe_ix ix_list (pv 7) (pe_un un_neg pe_int) (fun _ _ => rfl)) (pa_cons (pe_op op_xorN (pv 2) (pe_op op_bit pe_int (pe_call T.GT (hr.mono (by decide)) (by rfl) T.gT T.kT T.bT .nil pass0 (pa_cons (pv 0) (pa_cons (pv 1) pa_nil))))) pa_nil)))))
        (pss_cons (ps_set (i := 8) scSh.nd rfl (.inl rfl) (pe_op op_cat (pv 8) (pe_lst (pa_cons (pe_op op_xorN (pv 3) (pe_op op_bit pe_int (pe_call T.GT (hr.mono (by decide)) (by rfl) T.gT T.kT T.bT .nil pass0 (pa_cons (pv 0) (pa_cons (pv 1) pa_nil))))) (pa_cons (pe_call T.GT (hr.mono (by decide)) (by rfl) T.gT T.kT T.bT .nil pass0 (pa_cons (pv 0) (pa_cons (pe_op op_bit pe_int (pv 1)) pa_nil))) pa_nil)))))
        (pss_cons (ps_set (i := 9) scSh.nd rfl (.inl rfl) (pe_call T.GO (hr.mono (by decide)) (by rfl) T.gO T.kO T.bO .nil pass0 (pa_cons (pv 0) (pa_cons (pv 8) pa_nil))))
        (pss_one (ps_if (PW.pt (pw_and (pt_cmpR op_ne (pv 9) (pv 3) (nomark _)) (pw_and1 (pt_cmpR op_notIn_seq (pv 9) (pv 5) (by rfl))))) (pss_one (ps_expr (pe_bm PySem.F.plainAttrs_list PySem.F.slot_list_append PySem.F.type_list_append mt_append (pv 5) (pa_cons (pv 9) pa_nil)))) pss_nil)))))))
      (pss_one (ps_ret (pe_callTy call_tuple_of (by rfl) mt (by decide +kernel) (pa_cons (pe_callB cr_sorted (by rfl) ms (by decide +kernel) (pa_cons (pv 5) pa_nil)) pa_nil))))), ?_⟩
    refine ⟨(by show 0 ≤ sizeLine; decide), fun D nD => ?_⟩
    have hDa : D ≠ a := pot_ne hp nD
    refine ⟨.int n, rfl, _, rfl, by omega, by omega, for_range (lo := 0) (n := n) (fun i σ H' => ∃ y6 y7 y8 y9, σ = [some (.ref a), some (.int q), some (.int h), some (.int s0), some (.int n), some (.ref D), y6, y7, y8, y9] ∧ Keeps a H H' ∧ Pot H' a (m + 6 * i) ∧ ∃ ss : List Nat, H' D = some (.lst (nv ss)) ∧ ss.length ≤ i ∧ ∀ z ∈ ss, z < 2 ^ q) ⟨none, none, none, none, rfl, (Keeps.refl a H).new nD, hp.new nD, [], upd_same, Nat.le_refl 0, fun z hz => absurd hz List.not_mem_nil⟩ ?_ ?_⟩
    · rintro i σ H1 hi ⟨y6, y7, y8, y9, rfl, k1, p1, ss, eD, hl, hlt⟩
      rw [show (0 : Int) + (i : Int) = ((i : Nat) : Int) by omega]
      have hi : i < n := by omega
      generalize hN : m + 6 * i = N at p1
      have hN2 : N < 90000 := by omega
      refine ⟨.int q, rfl, .int h, rfl, .ref a, rfl, .int q, rfl, a, q, N, rfl, hq, by omega, p1, by omega, fun j H2 hj k2 p2 => ?_⟩
      refine ⟨.int s0, rfl, q, h, j, s0, rfl, hq, hq6, hj, fun H3 pr W x y s3 nW e3 eW => ?_⟩
      have p3 := p2.same s3
      have hWa : W ≠ a := pot_ne p2 nW
      refine ⟨pr, _, 0, .ref W, rfl, rfl, .inl (.inl e3), rfl, ?_⟩
      have hwl := wl_in hs (fun k hk => cl_lt hj hk) (ks := cl q (h ^^^ s0) j)
      have hwn : 0 < (nv (wl s0 (cl q (h ^^^ s0) j))).length ∧ (nv (wl s0 (cl q (h ^^^ s0) j))).length < 1073741824 := by
        rw [nv_len, wl_len]
        have := cl_len q (h ^^^ s0) j hq
        omega
      have hbut := wl_but hj hh hs
      have hL : (cl q (h ^^^ s0) j).getLast (cl_ne _ _ _) < q := cl_lt hj (List.getLast_mem _)
      have hbl : h ^^^ 2 ^ ((cl q (h ^^^ s0) j).getLast (cl_ne _ _ _)) < 2 ^ q := Nat.xor_lt_two_pow hh (Nat.pow_lt_pow_right (by decide) hL)
      generalize h ^^^ 2 ^ ((cl q (h ^^^ s0) j).getLast (cl_ne _ _ _)) = tl at hbut hbl
      generalize wl s0 (cl q (h ^^^ s0) j) = ws at *
      refine ⟨.ref a, rfl, .ref W, rfl, a, W, nv ws, N + 1, rfl, fun H' kp => .inl (.inl (kp W _ hWa eW)), hwn.1, hwn.2, p3, by omega, fun v H4 hv k4 p4 => ?_⟩
      obtain ⟨c, rfl, hc⟩ : ∃ g : Nat, v = .int (g : Int) ∧ g < 2 ^ q := by
        unfold nv at hv
        obtain ⟨g, hg, rfl⟩ := List.mem_map.mp hv
        exact ⟨g, rfl, hwl g hg⟩
      have eW4 := k4 W _ hWa eW
      refine ⟨.ref W, rfl, 2, rfl, W, _, -2, _, rfl, rfl, .inl (.inl eW4), hbut, .int h, rfl, .ref a, rfl, .int q, rfl, a, q, N + 2, rfl, hq, by omega, p4, by omega, fun r5 H5 l5 k5 p5 => ?_⟩
      refine ⟨r5, rfl, rfl, by omega, h, 2 ^ r5, rfl, rfl, (by show 3 ≤ sizeLine; decide), fun L nL => ?_⟩
      have hLa : L ≠ a := pot_ne p5 nL
      refine ⟨.ref L, rfl, .int s0, rfl, .ref a, rfl, .int q, rfl, a, q, N + 3, rfl, hq, by omega, p5.new nL, by omega, fun r6 H6 l6 k6 p6 => ?_⟩
      refine ⟨r6, rfl, rfl, by omega, s0, 2 ^ r6, rfl, rfl, .ref a, rfl, .int q, rfl, q, rfl, rfl, by omega, a, 2 ^ q, N + 4, rfl, h2q, pow60 hq6, p6, by omega, fun r7 H7 l7 k7 p7 => ?_⟩
      have eL := k7 L _ hLa (k6 L _ hLa upd_same)
      refine ⟨(by show 2 ≤ sizeLine; decide), fun L2 n2 => ⟨L, L2, _, _, rfl, rfl, by rw [upd_ne (ne_of_none eL n2)]; exact eL, upd_same, (by show 3 + 2 ≤ sizeLine; decide), fun L3 n3 => ?_⟩⟩
      have hL3 : L3 ≠ a := pot_ne (p7.new n2) n3
      refine ⟨.ref a, rfl, .ref L3, rfl, a, L3, _, N + 5, rfl, fun H' kp => .inl (.inl (kp L3 _ hL3 upd_same)), (by show 0 < 5; decide), (by show 5 < 1073741824; decide), (p7.new n2).new n3, by omega, fun v H8 hv k8 p8 => ?_⟩
      obtain ⟨g, rfl, hg⟩ : ∃ g : Nat, v = .int (g : Int) ∧ g < 2 ^ q := by
        simp only [List.cons_append, List.nil_append, List.mem_cons, List.not_mem_nil, or_false] at hv
        rcases hv with rfl | rfl | rfl | rfl | rfl
        · exact ⟨_, rfl, hc⟩
        · exact ⟨_, rfl, hbl⟩
        · exact ⟨_, rfl, Nat.xor_lt_two_pow hh (Nat.pow_lt_pow_right (by decide) l5)⟩
        · exact ⟨_, rfl, Nat.xor_lt_two_pow hs (Nat.pow_lt_pow_right (by decide) l6)⟩
        · exact ⟨_, rfl, l7⟩
      have kk : Keeps a H1 H8 := (((((((((k2.trans (Keeps.of_same s3)).trans k4).trans k5).new nL).trans k6).trans k7).new n2).new n3).trans k8)
      have eD8 := kk D _ hDa eD
      have K8 : Keeps a H H8 := k1.trans kk
      have skip : ∃ y6 y7 y8 y9, [some (V.ref a), some (.int q), some (.int h), some (.int s0), some (.int n), some (.ref D), some (.int (i : Nat)), some (.ref W), some (.ref L3), some (.int (g : Nat))] = [some (V.ref a), some (.int q), some (.int h), some (.int s0), some (.int n), some (.ref D), y6, y7, y8, y9] ∧ Keeps a H H8 ∧ Pot H8 a (m + 6 * (i + 1)) ∧ ∃ ss : List Nat, H8 D = some (.lst (nv ss)) ∧ ss.length ≤ i + 1 ∧ ∀ z ∈ ss, z < 2 ^ q := ⟨_, _, _, _, rfl, K8, p8.up (by omega), ss, eD8, by omega, hlt⟩
      refine ⟨.int (g : Nat), rfl, .int s0, rfl, rfl, _, rfl, ite2 (fun _ => ?_) (fun _ => iteF skip)⟩
      refine ⟨.int (g : Nat), rfl, .ref D, rfl, D, _, rfl, .inl (.inl (.inl eD8)), rfl, flat_nv ss, _, rfl, ite2 (fun _ => ?_) (fun _ => skip)⟩
      refine ⟨.ref D, rfl, .inl ⟨rfl, _, .inl (.inl eD8)⟩, .int (g : Nat), rfl, D, _, _, rfl, rfl, eD8, by rw [nv_len]; exact small1000 (by omega), _, _, _, _, rfl, fun b o nb z => ?_, (potU p8 (Ne.symm hDa)).up (by omega), ss ++ [g], ?_, by rw [List.length_append, List.length_singleton]; omega, fun z hz => ?_⟩
      · rw [upd_ne (ne_of_none z nD)]
        exact K8 b o nb z
      · rw [upd_same]
        simp [nv]
      · rcases List.mem_append.mp hz with hz | hz
        · exact hlt z hz
        · rw [List.mem_singleton.mp hz]
          exact hg
    · rintro σ H1 ⟨y6, y7, y8, y9, rfl, k1, p1, ss, eD, hl, hlt⟩
      rw [nv_ints] at eD
      refine ⟨.ref D, rfl, D, _, rfl, .inl (.inl eD), by rw [List.length_map]; omega, fun ns' pg hpm hs2 npg => ?_⟩
      obtain ⟨zs, rfl, zp⟩ := perm_nat hpm
      refine ⟨pg, _, rfl, .inl ⟨.inl (.inl upd_same), fun pt npt => ?_⟩⟩
      exact fin _ pt zs ((k1.new npg).new npt) (((p1.new npg).new npt).up (by omega)) (by rw [upd_same, nv_ints]) (fun z hz => hlt z (zp.mem_iff.mp hz)) (by rw [zp.length_eq]; omega)
end
end Bf
namespace Bf
open PySem PySem.Spec PyProof.Rows L2 LamX NdefX
theorem few_shown {ds : List PyData} (h : ∀ d ∈ ds, Ok2 d 6300 2) (hl : ds.length ≤ 3) : (PyData.list ds).showable = true ∧ (PyData.list ds).hasDict = false ∧ (PyData.list ds).depth < 60 ∧ (PyData.list ds).shown.length ≤ sizeLine := by
  obtain ⟨a1, a2, a3, a4, a5, a6⟩ := ok2_all ds h
  refine ⟨a1, a2, ?_, ?_⟩
  · show PyData.depthAll ds + 1 < 60
    omega
  · have h1 := PyData.shown_le 64 (by decide) (.list ds) a4
    have h2 : PyData.weight (.list ds) ≤ 6301 * ds.length := a5
    rw [sizeLine_eq]
    have h3 : (64 + 2) * PyData.weight (.list ds) ≤ 66 * (6301 * 3) := Nat.mul_le_mul (by decide) (by omega)
    omega
def TupAt (H : Hp) (v : V) (ns : List Nat) : Prop := ∃ p, v = .ref p ∧ H p = some (.tup (nv ns))
theorem TupAt.same {H H' : Hp} {v : V} {ns : List Nat} (h : TupAt H v ns) (s : Same H H') : TupAt H' v ns := let ⟨p, e, h1⟩ := h; ⟨p, e, s _ _ h1⟩
theorem TupAt.updL {H : Hp} {L : Addr} {l l' : List V} {v : V} {ns : List Nat} (h : TupAt H v ns) (eL : H L = some (.lst l)) : TupAt (upd H L (.lst l')) v ns := by
  obtain ⟨p, e, h1⟩ := h
  refine ⟨p, e, ?_⟩
  rw [upd_ne (fun z => by rw [z, eL] at h1; cases h1)]
  exact h1
theorem tups_dp {K : PySem.W.Frag} {H : Hp} {ns : List Nat} : ∀ ws : List V, (∀ w ∈ ws, TupAt H w ns) → DpAll K H ws (List.replicate ws.length (.tuple (nd' ns)))
  | [], _ => .nil
  | w :: ws, h => .cons (by
      obtain ⟨p, rfl, e⟩ := h w List.mem_cons_self
      exact dp_tup (.inl (.inl e))) (tups_dp ws fun x hx => h x (List.mem_cons_of_mem _ hx))
theorem rg_nv (q : Nat) : rgV 0 (q : Int) = nv (List.range q) := by
  unfold rgV nv
  rw [show ((q : Int) - 0).toNat = q by omega]
  refine List.map_congr_left fun i _ => ?_
  show V.int (0 + (i : Int)) = V.int (i : Int)
  rw [Int.zero_add]
theorem cm_none (q h s : Nat) : cmF q h s [] q = List.range q := by
  unfold cmF
  have : ∀ j, j ∉ spF q h s [] q := fun j hj => by
    have := spF_le q h s [] q
    have h0 : spF q h s [] q = [] := List.eq_nil_of_length_eq_zero (by simpa using this)
    rw [h0] at hj
    cases hj
  exact List.filter_eq_self.mpr fun j _ => by rw [decide_eq_false (this j)]; rfl
section
variable {P : Program} {w : World} {K : PySem.W.Frag} {mg : Str → Option Value} {base : Heap} {f fT fO fRd fWi fOr fHn fSh fSo fCm fP fRi : Addr} {fd fdT fdO fdRd fdWi fdOr fdHn fdSh fdSo fdCm fdP fdRi : FuncData} {k : Nat} {dsC : List Value}
structure Rt (P : Program) (w : World) (K : PySem.W.Frag) (mg : Str → Option Value) (base : Heap) (fT fO fWi fOr fHn fSh fSo : Addr) (fdT fdO fdWi fdOr fdHn fdSh fdSo : FuncData) : Prop where
  GT : FnOk P w K mg base CX0 1 fT fdT ["_law_pot", "_law_size"] spTake
  kT : PySem.W.keepIn K (.ref fT) = true
  bT : Binds K fdT ["_law_pot", "_law_size"] []
  gT : mg "_law_take" = some (.ref fT)
  GO : FnOk P w K mg base CX0 2 fO fdO ["_law_pot", "_law_some"] (spOf K)
  kO : PySem.W.keepIn K (.ref fO) = true
  bO : Binds K fdO ["_law_pot", "_law_some"] []
  gO : mg "_law_of" = some (.ref fO)
  GWi : FnOk P w K mg base CX0 3 fWi fdWi ["_law_pot", "_law_most"] spWi
  kWi : PySem.W.keepIn K (.ref fWi) = true
  bWi : Binds K fdWi ["_law_pot", "_law_most"] []
  gWi : mg "_law_width" = some (.ref fWi)
  GOr : FnOk P w K mg base CX0 3 fOr fdOr ["_law_pot", "_law_wide"] spOr
  kOr : PySem.W.keepIn K (.ref fOr) = true
  bOr : Binds K fdOr ["_law_pot", "_law_wide"] []
  gOr : mg "_law_origin" = some (.ref fOr)
  GHn : FnOk P w K mg base CX0 3 fHn fdHn ["_law_pot", "_law_wide", "_law_home"] spHn
  kHn : PySem.W.keepIn K (.ref fHn) = true
  bHn : Binds K fdHn ["_law_pot", "_law_wide", "_law_home"] []
  gHn : mg "_law_hand" = some (.ref fHn)
  GSh : FnOk P w K mg base CX0 3 fSh fdSh ["_law_pot", "_law_wide", "_law_one", "_law_home", "_law_few"] spSh
  kSh : PySem.W.keepIn K (.ref fSh) = true
  bSh : Binds K fdSh ["_law_pot", "_law_wide", "_law_one", "_law_home", "_law_few"] []
  gSh : mg "_law_shut_ones" = some (.ref fSh)
  GSo : FnOk P w K mg base CX0 3 fSo fdSo ["_law_wide", "_law_one", "_law_shut", "_law_home"] spSo
  kSo : PySem.W.keepIn K (.ref fSo) = true
  bSo : Binds K fdSo ["_law_wide", "_law_one", "_law_shut", "_law_home"] []
  gSo : mg "_law_spoils" = some (.ref fSo)
/-! ### right -/
theorem scRi : FnScope ["_law_pot", "_law_wide", "_law_home", "_law_one", "_law_shut", "_law_spoilt_here", "_law_due", "_law_found", "_law_tree"] ["_law_pot"] (defScope sRi) := ⟨rfl, rfl, rfl, by decide +kernel, rfl, by decide +kernel, by decide +kernel⟩
def spRi : Sp := fun vs H Q _ => ∃ a n, vs = [.ref a] ∧ Pot H a n ∧ n < 70000 ∧ ∀ H', Keeps a H H' → Pot H' a (n + 300) → Q (.bl true) H'
theorem ok_ri (F : Fun K "_law_right" "_law_right" sRi f fd) (T : Rt P w K mg base fT fO fWi fOr fHn fSh fSo fdT fdO fdWi fdOr fdHn fdSh fdSo)
    (GCm : FnOk P w K mg base CX0 5 fCm fdCm ["q", "hand", "lot", "source"] spCm) (kCm : PySem.W.keepIn K (.ref fCm) = true) (qCm : KBinds K fdCm ["q", "hand", "lot", "source"] ["source"] g3 g3) (nCm : KBinds K fdCm ["q", "hand", "lot", "source"] ["source", "lot", "hand", "q"] (gP [3, 2, 1, 0]) (gP [3, 2, 1, 0])) (vCm : Vals [.int 0] dsC) (bCm : Binds K fdCm ["q", "hand", "lot", "source"] dsC) (gCm : mg "came" = some (.ref fCm))
    (mr : mg "range" = none) (mt : mg "tuple" = none) (rp : mg "repr" = none) (ml : mg "len" = none) :
    FnG P w K mg base 6 f fd ["_law_pot"] spRi := by
  refine fnG_of F scRi (fun vs H Q E h => ?_) (fun cdv A outer s H vs Q E gd hr h => ?_)
  · obtain ⟨a, n, rfl, _⟩ := h
    rfl
  · obtain ⟨a, N, rfl, hp, hN, fin⟩ := h
    refine ⟨_, pss_cons (ps_set (i := 1) scRi.nd rfl (.inl rfl) (pe_call T.GO (hr.mono (by decide)) (by rfl) T.gO T.kO T.bO .nil pass0 (pa_cons (pv 0) (pa_cons (pe_lst (pa_cons pe_int (pa_cons pe_int (pa_cons (pe_call T.GWi (hr.mono (by decide)) (by rfl) T.gWi T.kWi T.bWi .nil pass0 (pa_cons (pv 0) (pa_cons pe_int pa_nil))) (pa_cons (pe_call T.GWi (hr.mono (by decide)) (by rfl) T.gWi T.kWi T.bWi .nil pass0 (pa_cons (pv 0) (pa_cons pe_int pa_nil))) pa_nil))))) pa_nil))))
      (pss_cons (ps_set (i := 2) scRi.nd rfl (.inl rfl) (pe_call T.GOr (hr.mono (by decide)) (by rfl) T.gOr T.kOr T.bOr .nil pass0 (pa_cons (pv 0) (pa_cons (pv 1) pa_nil))))
      (pss_cons (ps_set (i := 3) scRi.nd rfl (.inl rfl) (pe_ifExp (pt_cmpR op_eq (pe_call T.GT (hr.mono (by decide)) (by rfl) T.gT T.kT T.bT .nil pass0 (pa_cons (pv 0) (pa_cons pe_int pa_nil))) pe_int (nomark _)) (pv 2) (pe_call T.GHn (hr.mono (by decide)) (by rfl) T.gHn T.kHn T.bHn .nil pass0 (pa_cons (pv 0) (pa_cons (pv 1) (pa_cons (pv 2) pa_nil))))))
      (pss_cons (ps_set (i := 4) scRi.nd rfl (.inl rfl) (pe_call T.GSh (hr.mono (by decide)) (by rfl) T.gSh T.kSh T.bSh .nil pass0 (pa_cons (pv 0) (pa_cons (pv 1) (pa_cons (pv 3) (pa_cons (pv 2) (pa_cons (pe_call T.GT (hr.mono (by decide)) (by rfl) T.gT T.kT T.bT .nil pass0 (pa_cons (pv 0) (pa_cons pe_int pa_nil))) pa_nil)))))))
      (pss_cons (ps_set (i := 5) scRi.nd rfl (.inr rfl) (pe_call T.GSo (hr.mono (by decide)) (by rfl) T.gSo T.kSo T.bSo .nil pass0 (pa_cons (pv 1) (pa_cons (pv 3) (pa_cons (pv 4) (pa_cons (pv 2) pa_nil))))))
      (pss_cons (ps_set (i := 6) scRi.nd rfl (.inl rfl) (pe_callTy call_tuple_of (by rfl) mt (by decide +kernel) (pa_cons (pe_lc (own := [("_law_tree", 8)]) (g := gName 8) (tt := tTest (tOp (rIn K true) (tVar 8) (tVar 5))) (by rfl) scRi.nd (pi_range1 (by rfl) mr (pa_cons (pv 1) pa_nil))
        (blkOk_by (own := [("_law_tree", 8)]) (N := ["_law_pot", "_law_wide", "_law_home", "_law_one", "_law_shut", "_law_spoilt_here", "_law_due", "_law_found", "_law_tree"]) (sc := defScope sRi) (by decide +kernel)) (fun _ _ _ _ _ => pg_name (i := 8) scRi.nd rfl (Or.inl rfl))
        (fun _ _ _ _ _ => pts_one (pt_cmpR op_notIn_seq (pv 8) (pv 5) (by rfl))) (fun _ _ _ _ _ => pv 8)) pa_nil)))
      (pss_cons (ps_set (i := 7) scRi.nd rfl (.inl rfl) (pe_lst (pa_cons (pe_callK GCm (hr.mono (by decide)) (by rfl) gCm kCm qCm pass0 (pa_cons (pv 1) (pa_cons (pv 3) (pa_cons (pv 4) pa_nil))) (pk_cons (pv 2) pk_nil)) (pa_cons (pe_callK0 GCm (hr.mono (by decide)) (by rfl) gCm kCm nCm pass0 (pk_cons (pv 2) (pk_cons (pv 4) (pk_cons (pv 3) (pk_cons (pv 1) pk_nil))))) pa_nil))))
      (pss_cons (ps_if (pt_cmpR op_eq (pv 2) pe_int (nomark _)) (pss_one (ps_expr (pe_bm PySem.F.plainAttrs_list PySem.F.slot_list_append PySem.F.type_list_append mt_append (pv 7) (pa_cons (pe_call GCm (hr.mono (by decide)) (by rfl) gCm kCm bCm vCm pass0 (pa_cons (pv 1) (pa_cons (pv 3) (pa_cons (pv 4) pa_nil)))) pa_nil)))) pss_nil)
      (pss_cons (ps_if (pt_cmpR op_ne (pe_callB (call_reprA gd hr.units) (by rfl) rp (by decide +kernel) (pa_cons (pv 7) pa_nil)) (pe_callB (call_reprA gd hr.units) (by rfl) rp (by decide +kernel) (pa_cons (pe_op op_rep (pe_lst (pa_cons (pv 6) pa_nil)) (pe_callB call_len_seq (by rfl) ml PySem.boot_len (pa_cons (pv 7) pa_nil))) pa_nil)) (nomark _)) (pss_one (ps_ret pe_bl)) pss_nil)
      (pss_one (ps_ret (pe_cmpR (op_eqD hr.units) (pe_callK GCm (hr.mono (by decide)) (by rfl) gCm kCm qCm pass0 (pa_cons (pv 1) (pa_cons (pv 3) (pa_cons (pe_tup pa_nil) pa_nil))) (pk_cons (pv 2) pk_nil)) (pe_tupRg (by rfl) (by rfl) mt (prg_1 (by rfl) mr (pv 1))) (nomark _)))))))))))), ?_⟩
    refine ⟨.ref a, rfl, .ref a, rfl, a, N, rfl, hp, by omega, fun r1 H1 g1 g1' k1 p1 => ?_⟩
    refine ⟨.ref a, rfl, a, N + 2, rfl, p1, by omega, fun r2 H2 g2 g2' k2 p2 => ?_⟩
    refine ⟨(by show 4 ≤ sizeLine; decide), fun L nL => ?_⟩
    refine ⟨a, L, _, N + 4, rfl, fun H' kp => .inl (.inl (kp L _ (pot_ne p2 nL) upd_same)), (by show 0 < 4; decide), (by show 4 < 1073741824; decide), p2.new nL, by omega, fun v H3 hv k3 p3 => ?_⟩
    obtain ⟨q, rfl, hq, hq6⟩ : ∃ g : Nat, v = .int (g : Int) ∧ 0 < g ∧ g ≤ 60 := by
      simp only [List.mem_cons, List.not_mem_nil, or_false] at hv
      rcases hv with rfl | rfl | rfl | rfl
      · exact ⟨1, rfl, by decide, by decide⟩
      · exact ⟨2, rfl, by decide, by decide⟩
      · exact ⟨r1, rfl, by omega, by omega⟩
      · exact ⟨r2, rfl, by omega, by omega⟩
    have K3 : Keeps a H H3 := ((k1.trans k2).new nL).trans k3
    clear k1 k2 k3 nL hv p1 p2
    refine ⟨.ref a, rfl, .int q, rfl, a, q, N + 5, rfl, hq, hq6, p3, by omega, fun s0 H4 hs k4 p4 => ?_⟩
    have K4 := K3.trans k4
    dsimp only [gName, tSeq, tAsg]
    refine rd_ifD (fun b H' => Keeps a H4 H' ∧ Pot H' a (N + 8)) (fun v H' => (∃ g : Nat, v = .int (g : Int) ∧ g < 2 ^ q) ∧ Keeps a H4 H' ∧ Pot H' a (N + 12)) ?_ ?_ ?_ ?_
    · exact fun Q' z => ⟨.ref a, rfl, a, 8, N + 7, rfl, by decide, by decide, p4, by omega, fun r5 H5 l5 k5 p5 => ⟨rfl, _, rfl, z _ _ ⟨k5, p5⟩⟩⟩
    · rintro H' ⟨k5, p5⟩ Q' z
      exact ⟨_, rfl, z _ _ ⟨⟨s0, rfl, hs⟩, k5, p5.up (by omega)⟩⟩
    · rintro H' ⟨k5, p5⟩ Q' z
      exact ⟨.ref a, rfl, .int q, rfl, .int s0, rfl, a, q, s0, N + 8, rfl, hq, hq6, hs, p5, by omega, fun r6 H6 l6 k6 p6 => z _ _ ⟨⟨r6, rfl, l6⟩, k5.trans k6, p6⟩⟩
    rintro v H5 ⟨⟨h, rfl, hh⟩, k5, p5⟩
    have K5 := K4.trans k5
    clear K4 k5 p4 K3 k4 p3
    refine ⟨.ref a, rfl, .int q, rfl, .int h, rfl, .int s0, rfl, .ref a, rfl, a, 9, N + 12, rfl, by decide, by decide, p5, by omega, fun few H6 lf k6 p6 => ?_⟩
    refine ⟨a, q, h, s0, few, N + 13, rfl, hq, hq6, hh, hs, by omega, p6, by omega, fun H7 pz zs k7 p7 ez zl zn => ?_⟩
    have K7 := (K5.trans k6).trans k7
    clear K5 k6 k7 p5 p6
    refine ⟨.int q, rfl, .int h, rfl, .ref pz, rfl, .int s0, rfl, q, h, s0, pz, zs, rfl, hq, hq6, hh, hs, zl, ez, fun H8 p8 s8 e8 => ?_⟩
    -- due
    refine ⟨.int q, rfl, _, rfl, by omega, by omega, fun G nG => lc_range (lo := 0) (fun i H' => Same H8 H' ∧ H' G = some (.lst (nv (cmF q h s0 zs i)))) ⟨same_new (Same.refl H8) nG, upd_same⟩ ?_ ?_⟩
    · rintro i H2 hi ⟨s2, eG⟩
      rw [show (0 : Int) + (i : Int) = ((i : Nat) : Int) by omega]
      refine ⟨rfl, .int (i : Nat), rfl, .ref p8, rfl, p8, _, rfl, .inl (.inl (.inl (s2 _ _ e8))), rfl, flat_nv _, _, rfl, ?_⟩
      show if (!inV (.int (i : Int)) (nv (spF q h s0 zs q))) = true then _ else _
      rw [in_nvD]
      have hsu := cmF_succ q h s0 zs i
      cases b : decide (i ∈ spF q h s0 zs q) with
      | false =>
        rw [b, if_pos (show (!false) = true from rfl)] at hsu
        refine iteT ⟨_, rfl, _, eG, ?_, fun b' o z => ?_, ?_⟩
        · rw [nv_len]
          have := cmF_len q h s0 zs i
          exact small1000 (by omega)
        · rw [upd_ne (ne_of_none z nG)]
          exact s2 b' o z
        · rw [upd_same, hsu]
          simp [nv]
      | true =>
        rw [b, if_neg (by decide), List.append_nil] at hsu
        exact iteF ⟨s2, by rw [eG, hsu]⟩
    · rintro H9 ⟨s9, eG⟩
      have eG : H9 G = some (.lst (nv (cmF q h s0 zs q))) := eG
      have hcl := cmF_len q h s0 zs q
      have hcm : ∀ j ∈ cmF q h s0 zs q, j < q := fun j hj => by
        unfold cmF at hj
        exact List.mem_range.mp (List.mem_filter.mp hj).1
      generalize hcme : cmF q h s0 zs q = cm at *
      have ok3 : ∀ n, n ≤ 3 → _ := fun n hn => few_shown (ds := List.replicate n (.tuple (nd' cm))) (fun d hd => by rw [List.eq_of_mem_replicate hd]; exact ok2_row (fun x hx => Nat.lt_trans (hcm x hx) (Nat.lt_of_le_of_lt hq6 (by decide))) (by omega)) (by rw [List.length_replicate]; exact hn)
      refine ⟨G, _, rfl, .inl ⟨.inl (.inl eG), fun pd npd => ?_⟩⟩
      have sA : Same H7 (upd H9 pd (.tup (nv cm))) := same_new (s8.trans s9) npd
      have ed : (upd H9 pd (.tup (nv cm))) pd = some (.tup (nv cm)) := upd_same
      generalize upd H9 pd (.tup (nv cm)) = HA at *
      clear s9 eG nG npd s8 e8
      refine ⟨.int q, rfl, .int h, rfl, .ref pz, rfl, .int s0, rfl, q, h, s0, pz, zs, rfl, hq, hq6, hh, hs, zl, by omega, sA _ _ ez, fun HB pb sB eb => ?_⟩
      rw [hcme] at eb
      have sAB := sA.trans sB
      refine ⟨.int s0, rfl, .ref pz, rfl, .int h, rfl, .int q, rfl, q, h, s0, pz, zs, rfl, hq, hq6, hh, hs, zl, by omega, sAB _ _ ez, fun HC pc sC ec => ?_⟩
      rw [hcme] at ec
      refine ⟨(by show 2 ≤ sizeLine; decide), fun L nL => ?_⟩
      have sC' := sAB.trans sC
      have sD : Same H7 (upd HC L (.lst [V.ref pb, .ref pc])) := same_new sC' nL
      have eL : (upd HC L (.lst [V.ref pb, .ref pc])) L = some (.lst [V.ref pb, .ref pc]) := upd_same
      have tb : TupAt (upd HC L (.lst [V.ref pb, .ref pc])) (.ref pb) cm := ⟨pb, rfl, same_new (Same.refl HC) nL _ _ (sC _ _ eb)⟩
      have tc : TupAt (upd HC L (.lst [V.ref pb, .ref pc])) (.ref pc) cm := ⟨pc, rfl, same_new (Same.refl HC) nL _ _ ec⟩
      have td : TupAt (upd HC L (.lst [V.ref pb, .ref pc])) (.ref pd) cm := ⟨pd, rfl, same_new ((sB.trans sC)) nL _ _ ed⟩
      have nL7 : H7 L = none := sC'.free nL
      generalize upd HC L (.lst [V.ref pb, .ref pc]) = HD at *
      clear sA sB sAB sC sC' nL eb ec ed
      dsimp only [gName, tSeq]
      refine rd_ifX (decide (V.int (s0 : Nat) = V.int 0)) (fun H' => ∃ ws : List V, 2 ≤ ws.length ∧ ws.length ≤ 3 ∧ H' L = some (.lst ws) ∧ (∀ w' ∈ ws, TupAt H' w' cm) ∧ TupAt H' (.ref pd) cm ∧ Same H7 H') ?_ ?_ ?_ ?_
      · exact fun Q' z => ⟨.int s0, rfl, rfl, _, rfl, z⟩
      · intro b Q' z
        have e0 : s0 = 0 := by have := V.int.inj (of_decide_eq_true b); omega
        refine ⟨.ref L, rfl, .inl ⟨rfl, _, .inl (.inl eL)⟩, .int q, rfl, .int h, rfl, .ref pz, rfl, q, h, 0, pz, zs, rfl, hq, hq6, hh, Nat.two_pow_pos q, zl, by omega, sD _ _ ez, fun HE pe sE ee => ?_⟩
        rw [e0] at hcme
        rw [hcme] at ee
        have eLE := sE _ _ eL
        refine ⟨L, _, _, rfl, rfl, eLE, small1000 (by show 2 ≤ 1000; decide), z _ _ ⟨[V.ref pb, .ref pc, .ref pe], (by show 2 ≤ 3; decide), (by show 3 ≤ 3; decide), upd_same, fun w' hw => ?_, (td.same sE).updL eLE, fun b o e => ?_⟩⟩
        · simp only [List.mem_cons, List.not_mem_nil, or_false] at hw
          rcases hw with rfl | rfl | rfl
          · exact (tb.same sE).updL eLE
          · exact (tc.same sE).updL eLE
          · exact TupAt.updL ⟨pe, rfl, ee⟩ eLE
        · rw [upd_ne (ne_of_none e nL7)]
          exact sE b o (sD b o e)
      · intro b
        refine ⟨[V.ref pb, .ref pc], (by show 2 ≤ 2; decide), (by show 2 ≤ 3; decide), eL, fun w' hw => ?_, td, sD⟩
        simp only [List.mem_cons, List.not_mem_nil, or_false] at hw
        rcases hw with rfl | rfl
        · exact tb
        · exact tc
      · rintro HE ⟨ws, hc1, hc2, eLE, tws, tdE, sE⟩
        have ok := ok3 ws.length hc2
        refine ⟨.ref L, rfl, .inr ⟨L, _, rfl, .lst (.inl (.inl eLE)) (tups_dp ws tws), ok.1, ok.2.1, ok.2.2.1, ok.2.2.2, .ref pd, rfl, (by show 1 ≤ sizeLine; decide), fun p np => ?_⟩⟩
        have eLp : (upd HE p (.lst [V.ref pd])) L = some (.lst ws) := by rw [upd_ne (ne_of_none eLE np)]; exact eLE
        refine ⟨.ref L, rfl, L, _, rfl, .inl (.inl (.inl eLp)), p, _, _, rfl, rfl, upd_same, by omega, by omega, ?_, fun p2 np2 => ?_⟩
        · have : sizeLine = 16777216 := rfl
          show 1 * (ws.length : Int).toNat ≤ sizeLine
          omega
        have el : (List.replicate (ws.length : Int).toNat [V.ref pd]).flatten = List.replicate ws.length (V.ref pd) := by
          rw [Int.toNat_natCast]
          rcases (show ws.length = 2 ∨ ws.length = 3 by omega) with e | e <;> rw [e] <;> rfl
        rw [el]
        have sF : Same HE (upd (upd HE p (.lst [V.ref pd])) p2 (.lst (List.replicate ws.length (V.ref pd)))) := same_new (same_new (Same.refl HE) np) np2
        have dF := tups_dp (K := K) (H := upd (upd HE p (.lst [V.ref pd])) p2 (.lst (List.replicate ws.length (V.ref pd)))) (ns := cm) (List.replicate ws.length (V.ref pd)) (fun w' hw => by rw [List.eq_of_mem_replicate hw]; exact tdE.same sF)
        rw [List.length_replicate] at dF
        refine .inr ⟨p2, _, rfl, .lst (.inl (.inl upd_same)) dF, ok.1, ok.2.1, ok.2.2.1, ok.2.2.2, rfl, _, rfl, ?_⟩
        rw [decide_eq_true rfl]
        refine iteF ?_
        have sG := sE.trans sF
        generalize upd (upd HE p (.lst [V.ref pd])) p2 (.lst (List.replicate ws.length (V.ref pd))) = HF at *
        refine ⟨.int q, rfl, .int h, rfl, (by show 0 ≤ sizeLine; decide), fun t0 nt0 => ⟨.int s0, rfl, q, h, s0, t0, [], rfl, hq, hq6, hh, hs, fun o ho => absurd ho List.not_mem_nil, by decide, by rw [upd_same]; rfl, fun HH ph sH eh => ?_⟩⟩
        rw [cm_none] at eh
        refine ⟨.int q, rfl, _, rfl, RgOk.of_le (by omega) (by omega) (by omega) (by omega), fun pr npr => ?_⟩
        rw [rg_nv]
        have sI : Same HH (upd HH pr (.tup (nv (List.range q)))) := same_new (Same.refl HH) npr
        have er : (upd HH pr (.tup (nv (List.range q)))) pr = some (.tup (nv (List.range q))) := upd_same
        generalize upd HH pr (.tup (nv (List.range q))) = HI at *
        refine ⟨_, _, dp_tup (.inl (.inl (sI _ _ eh))), dp_tup (.inl (.inl er)), nd_shaped _, nd_shaped _, ?_⟩
        rw [PySem.SeqAt.eqv_refl _ (nd_can _)]
        have sZ : Same H7 HI := (((sG.trans (same_new (Same.refl HF) nt0)).trans sH).trans sI)
        exact fin HI (K7.trans (Keeps.of_same sZ)) ((p7.same sZ).up (by omega))
/-! ### the law -/
theorem scLaw : FnScope ["_law_script", "_law_nth", "_law_pot", "_law_turn"] ["_law_script"] (defScope sLaw) := ⟨rfl, rfl, rfl, by decide +kernel, rfl, by decide +kernel, by decide +kernel⟩
structure Lw (mg : Str → Option Value) (fP fRi : Addr) : Prop where
  gP : mg "_law_urn" = some (.ref fP)
  gRi : mg "_law_right" = some (.ref fRi)
  len : mg "len" = none
  rng : mg "range" = none
  mx : mg "max" = none
  mn : mg "min" = none
def spLaw (K : PySem.W.Frag) : Sp := fun vs H Q _ => ∃ (a : Addr) (ns : List Int), vs = [.ref a] ∧ SqL K H a (ns.map V.int) ∧ ns.length ≤ 63 ∧ ∀ H', Q (.bl true) H'
theorem ok_law {fP fRi : Addr} {fdP fdRi : FuncData} (F : Fun K "law" "law" sLaw f fd) (T : Lw mg fP fRi)
    (GP : FnOk P w K mg base CX0 1 fP fdP ["_law_script", "_law_nth"] (spPot K)) (kP : PySem.W.keepIn K (.ref fP) = true) (bP : Binds K fdP ["_law_script", "_law_nth"] [])
    (GRi : FnG P w K mg base 6 fRi fdRi ["_law_pot"] spRi) (kRi : PySem.W.keepIn K (.ref fRi) = true) (bRi : Binds K fdRi ["_law_pot"] []) :
    FnG P w K mg base 7 f fd ["_law_script"] (spLaw K) := by
  refine fnG_of F scLaw (fun vs H Q E h => ?_) (fun cdv A outer s H vs Q E gd hr h => ?_)
  · obtain ⟨a, n, rfl, _⟩ := h
    rfl
  · obtain ⟨a, ns, rfl, hS, hl, fin⟩ := h
    refine ⟨_, pss_cons (ps_for PassesOwn.never rfl (pi_range1 (by rfl) T.rng (pa_cons (pe_callB (call_max2 rfl) (by rfl) T.mx (by decide +kernel) (pa_cons pe_int (pa_cons (pe_callB (call_min2 rfl) (by rfl) T.mn (by decide +kernel)
        (pa_cons pe_int (pa_cons (pe_callB call_len_seq (by rfl) T.len PySem.boot_len (pa_cons (pv 0) pa_nil)) pa_nil))) pa_nil))) pa_nil)) (pg_name (i := 1) scLaw.nd rfl (.inl rfl))
      (pss_cons (ps_set (i := 2) scLaw.nd rfl (.inl rfl) (pe_call GP (hr.mono (by decide)) (by rfl) T.gP kP bP .nil pass0 (pa_cons (pv 0) (pa_cons (pv 1) pa_nil))))
      (pss_one (ps_for PassesOwn.never rfl (pi_range1 (by rfl) T.rng (pa_cons pe_int pa_nil)) (pg_name (i := 3) scLaw.nd rfl (.inl rfl))
        (pss_one (ps_if (pt_not (pt_val (pe_callG (E := E0) GRi gd hr (by rfl) T.gRi kRi bRi .nil (pa_cons (pv 2) pa_nil)))) (pss_one (ps_ret pe_bl)) pss_nil))))))
      (pss_one (ps_ret pe_bl)), ?_⟩
    refine ⟨.ref a, rfl, a, _, rfl, .inl hS, _, _, rfl, _, _, rfl, _, rfl, ?_, ?_, for_range (lo := 0) (fun i σ H' => ∃ y1 y2 y3, σ = [some (.ref a), y1, y2, y3] ∧ ExtN H H') ⟨none, none, none, rfl, ExtN.refl H⟩ ?_ ?_⟩
    · split <;> split <;> omega
    · split <;> split <;> omega
    · rintro i σ H1 hi ⟨y1, y2, y3, rfl, x1⟩
      have hi2 : i ≤ 100 := by
        refine Nat.le_of_lt (Nat.lt_of_lt_of_le hi ?_)
        split <;> split <;> omega
      refine ⟨.ref a, rfl, .int (0 + i), rfl, a, ns, i, by rw [Int.zero_add]; rfl, extL x1 hS, hl, hi2, fun H2 p s2 np pp => ?_⟩
      refine ⟨6, rfl, by decide, by decide, for_range (lo := 0) (n := 6) (fun j σ H' => ∃ y3, σ = [some (.ref a), some (.int (0 + i)), some (.ref p), y3] ∧ Keeps p H2 H' ∧ Pot H' p (j * 300)) ⟨_, rfl, Keeps.refl _ _, pp⟩ ?_ ?_⟩
      · rintro j σ H3 hj ⟨y3, rfl, k3, p3⟩
        refine ⟨.ref p, rfl, p, j * 300, rfl, p3, by omega, fun H4 k4 p4 => ⟨_, rfl, iteF ?_⟩⟩
        exact ⟨_, rfl, k3.trans k4, p4.up (by omega)⟩
      · rintro σ H3 ⟨y3, rfl, k3, p3⟩
        exact ⟨_, _, _, rfl, x1.trans (ext_kt np (ExtN.of s2) (KT.k k3))⟩
    · rintro σ H1 ⟨y1, y2, y3, rfl, x1⟩
      exact fin H1
end
end Bf
namespace Bf
open PySem PySem.Spec PyProof.Rows L2 LamX
/-- what is tracked at the law's call: the tables ts, empty; the script at a, locked, where it isn't written -/
def G0 (K : PySem.W.Frag) (ts : List Addr) (a : Addr) (ob : Obj) (xs : List V) : Hp := fun b =>
  if b ∈ ts then some (.tbl #[]) else if b = a ∧ (K.lookup a).isNone = true then some (.frz ob (.lst xs)) else none
section
variable {K : PySem.W.Frag} {ts : List Addr} {a b : Addr} {ob : Obj} {xs : List V}
theorem g0_tab (h : b ∈ ts) : G0 K ts a ob xs b = some (.tbl #[]) := if_pos h
theorem g0_scr (h : a ∉ ts) (n : K.lookup a = none) : G0 K ts a ob xs a = some (.frz ob (.lst xs)) := (if_neg h).trans (if_pos ⟨rfl, by rw [n]; rfl⟩)
theorem g0_some {u : HO} (h : G0 K ts a ob xs b = some u) : (b ∈ ts ∧ u = .tbl #[]) ∨ (b ∉ ts ∧ b = a ∧ K.lookup a = none ∧ u = .frz ob (.lst xs)) := by
  unfold G0 at h
  by_cases m : b ∈ ts
  · rw [if_pos m] at h
    exact .inl ⟨m, (Option.some.inj h).symm⟩
  · rw [if_neg m] at h
    by_cases c : b = a ∧ (K.lookup a).isNone = true
    · rw [if_pos c] at h
      exact .inr ⟨m, c.1, Option.isNone_iff_eq_none.mp c.2, (Option.some.inj h).symm⟩
    · rw [if_neg c] at h
      cases h
end
theorem law_tabs {P : Program} {w : World} {K : PySem.W.Frag} {mg mb : Str → Option Value} {k : Nat} {fa a : Addr} {cs : List (Addr × Addr)} {fd : FuncData} {x : Str} {sp : Sp} {z : Shared} {vs : List Value} {ns : List Int}
    (KI : K.In z.heap) (n1 : z.heap.Ns mainGlobals mg) (n2 : z.heap.Ns builtinsNs mb) (n3 : ∀ y : Str, y ≠ "__name__" → mb y = bootBuiltins y) (n4 : z.heap.NoLimit) (n5 : z.gens = #[])
    (t1 : ∀ p ∈ cs, z.heap.get? p.2 = some { cls := .none, data := .fields #[] }) (t2 : ∀ p ∈ cs, K.lookup p.2 = none) (t3 : ∀ p ∈ cs, PySem.W.CodeHd z.heap p.1 p.2)
    (t4 : ∃ (bm : Addr) (ob : Obj), mg "__builtins__" = some (.ref bm) ∧ bm ≠ builtinsNs ∧ z.heap.get? bm = some ob ∧ ob.cls = .type "module" ∧ ob.dict = some builtinsNs ∧ ob.data = .plain)
    (oa : z.heap.get? a = some { cls := .type "list", data := .seq vs.toArray }) (ia : IntsAre vs ns) (la : ns.length ≤ sizeLine) (rm : Room k callerA)
    (F : ∀ base : Heap, K.In base → base.Ns mainGlobals mg → (∀ p ∈ cs, TabB base mg p.1 p.2) → FnG P w K mg base k fa fd [x] sp) (bd : ∀ (s : Shared) (u : Value), BindsTo s fd ⟨[u], []⟩ [(x, u)])
    (hs : ∀ G : Hp, (∀ p ∈ cs, G p.2 = some (.tbl #[])) → SqL K G a (ns.map V.int) → sp [.ref a] G (fun v _ => v = .bl true) fun _ _ _ => False) :
    codeAny (model P w) callerA (.call (.ref fa) ⟨[.ref a], []⟩) (fun r y => r = .ok (.ret (.bool true)) ∧ OldK z.heap y.heap ∧ y.os = z.os ∧ AllBare y.gens) z := by
  have tm : ∀ b ∈ cs.map (·.2), ∃ p ∈ cs, p.2 = b := fun b h => by
    obtain ⟨p, hp, e⟩ := List.mem_map.mp h
    exact ⟨p, hp, e⟩
  have nat : a ∉ cs.map (·.2) := fun h => by
    obtain ⟨p, hp, e⟩ := tm a h
    have q := t1 p hp
    rw [e, oa] at q
    cases q
  generalize hG : G0 K (cs.map (·.2)) a { cls := .type "list", data := .seq vs.toArray } (ns.map V.int) = G
  have some' : ∀ {b u}, G b = some u → (b ∈ cs.map (·.2) ∧ u = .tbl #[]) ∨ (b ∉ cs.map (·.2) ∧ b = a ∧ K.lookup a = none ∧ u = .frz { cls := .type "list", data := .seq vs.toArray } (.lst (ns.map V.int))) := fun {b u} h => g0_some (hG ▸ h)
  have tabG : ∀ p ∈ cs, G p.2 = some (.tbl #[]) := fun p hp => hG ▸ g0_tab (List.mem_map.mpr ⟨p, hp, rfl⟩)
  have rv := vals_ints ia
  have sq : SqL K G a (ns.map V.int) := by
    cases e : K.lookup a with
    | none => exact .inl (.inr ⟨_, hG ▸ g0_scr nat e⟩)
    | some o =>
      have q := KI a o e
      rw [oa] at q
      cases q
      exact .inr ⟨_, vs.toArray, _, e, rfl, rfl, rfl, by rw [List.size_toArray, ia.length]; exact la, by simpa using rv⟩
  have ok : HOk P w G z.heap := fun b u e => by
    rcases some' e with ⟨m, rfl⟩ | ⟨_, rfl, _, rfl⟩
    · obtain ⟨p, hp, rfl⟩ := tm b m
      exact t1 p hp
    · exact ⟨oa, by rw [List.length_map]; exact la, vs, _, rv, oa⟩
  -- what is neither a list nor an empty table isn't tracked
  have off : ∀ {b : Addr} {o : Obj}, z.heap.get? b = some o → (∀ us n, o.data ≠ .seq us n) → o.data ≠ .fields #[] → G b = none := fun {b o} e d1 d2 => by
    cases q : G b with
    | none => rfl
    | some u =>
      rcases some' q with ⟨m, _⟩ | ⟨_, rfl, _, _⟩
      · obtain ⟨p, hp, rfl⟩ := tm b m
        rw [t1 p hp] at e
        cases e
        exact (d2 rfl).elim
      · rw [oa] at e
        cases e
        exact (d1 _ _ rfl).elim
  have stay : ∀ {b : Addr} {o : Obj}, z.heap.get? b = some o → (∀ us n, o.data ≠ .seq us n) → o.data ≠ .fields #[] → (hidT z.heap G).get? b = some o := fun e d1 d2 => hidT_get e (off e d1 d2)
  have nsB : ∀ {b : Addr} {m : Str → Option Value}, z.heap.Ns b m → (hidT z.heap G).Ns b m := fun ⟨o, es, ep, e, d, r⟩ => ⟨o, es, ep, stay e (fun us n y => by rw [d] at y; cases y) (fun y => by rw [d] at y; cases y), d, r⟩
  have inB : K.In (hidT z.heap G) := fun b o e => hidT_get (KI b o e) (by
    cases q : G b with
    | none => rfl
    | some u =>
      rcases some' q with ⟨m, _⟩ | ⟨_, rfl, n, _⟩
      · obtain ⟨p, hp, rfl⟩ := tm b m
        rw [t2 p hp] at e
        cases e
      · rw [n] at e
        cases e)
  have tbB : ∀ p ∈ cs, TabB (hidT z.heap G) mg p.1 p.2 := fun p hp => by
    refine ⟨?_, ?_, fun y => ?_⟩
    · obtain ⟨o, us, file, tf, flags, tg, inF, text, tt, e1, r1, r2, r3, rest⟩ := t3 p hp
      refine ⟨o, us, file, tf, flags, tg, inF, text, tt, stay e1 (fun us n y => by rw [r2] at y; cases y) (fun y => ?_), r1, r2, r3, rest⟩
      rw [r2] at y
      cases y
      simp at r3
    · obtain ⟨bm, om, b1, b2, b3, b4, b5, b6⟩ := t4
      refine ⟨bm, om, b1, b2, fun y => ?_, fun y => ?_, stay b3 (fun us n y => by rw [b6] at y; cases y) (fun y => by rw [b6] at y; cases y), b4, b5, b6⟩
      · obtain ⟨o, es, ep, e, d, _⟩ := n1
        rw [y, e] at b3
        cases b3
        rw [d] at b6
        cases b6
      · rw [y, t1 p hp] at b3
        cases b3
        cases b6
    · obtain ⟨o, es, ep, e, d, _⟩ := n1
      rw [y, t1 p hp] at e
      cases e
      cases d
  have md : L2.Mod K mg (hidT z.heap G) := ⟨inB, nsB n1, ⟨mb, nsB n2, n3⟩, let ⟨mc, c1, c2⟩ := n4; ⟨mc, nsB c1, c2⟩⟩
  have en : Env0 P w K mg (hidT z.heap G) callerA [] z G := ⟨rfl, md, fun _ _ e => of_hidT e, Nat.le_of_eq (hidT_size _ _), trivial, (fun b h => absurd (show b ∈ ([] : List Addr) from h) List.not_mem_nil), ok, .of_eq n5⟩
  refine codeAny_mono ((F _ inB (nsB n1) tbB).go callerA [] z G ⟨[.ref a], []⟩ [.ref a] [.ref a] _ _ rfl rm en (bd z (.ref a)) (.cons rfl .nil) (hs G tabG sq)) fun r y h => ?_
  match r, h with
  | .error _, h => exact h.elim
  | .ok .next, h => exact False.elim h
  | .ok .brk, h => exact False.elim h
  | .ok .cont, h => exact False.elim h
  | .ok (.ret u), h =>
    obtain ⟨v, G', e1, e2, un, ok', r', q⟩ := h
    obtain rfl : v = .bl true := q
    obtain rfl : u = Value.bool true := r'
    -- an object that stood before: a table may have grown, all else is as it was
    have old : ∀ b o, z.heap.get? b = some o → (b ∈ cs.map (·.2) ∧ ∃ more : Array Value, y.heap.get? b = some { cls := .none, data := .fields more }) ∨ y.heap.get? b = some o := fun b o e => by
      cases q : G b with
      | none => exact .inr (un.keep b o e q (fun h => absurd (show b ∈ ([] : List Addr) from h) List.not_mem_nil) List.not_mem_nil)
      | some u =>
        rcases some' q with ⟨m, rfl⟩ | ⟨_, rfl, _, rfl⟩
        · obtain ⟨more, g⟩ := un.tbls b #[] q
          exact .inl ⟨m, _, ok' b _ g⟩
        · rw [oa] at e
          cases e
          exact .inr (ok' b _ (un.frzs b _ _ q)).1
    refine ⟨rfl, ⟨fun b o e => ?_, fun b o e => ?_⟩, e1, e2⟩
    · rcases old b o e with ⟨m, more, g⟩ | g
      · obtain ⟨p, hp, rfl⟩ := tm b m
        rw [t1 p hp] at e
        cases e
        exact .inr (.inl ⟨((t3 p hp).tab (t1 p hp)).isCodeTable, rfl, #[], more, rfl, by rw [Array.empty_append]; exact g⟩)
      · exact .inl g
    · rcases old b o e with ⟨_, more, g⟩ | g
      · exact ⟨_, g⟩
      · exact ⟨o, g⟩
theorem walkTG {l : PySem.W.OpenLaw} {n k : Nat} {q : Program} {loose : List Str} {XP : (Str → Option Value) → Heap → Prop} {YP : World → Heap → Prop} {d : DefRec} {x : Str} (hn : l.most = some n) (hn2 : n ≤ sizeLine) (hdf : d.params.defaults = []) (rm : Room k callerA)
    (F : ∀ (w : World) (mg : Str → Option Value) (fa : Addr) (h : Heap), YP w h → h.Ns mainGlobals mg → mg d.name = some (.ref fa) → ∃ (K : PySem.W.Frag) (fd : FuncData) (cs : List (Addr × Addr)) (sp : Sp), K.In h ∧
      (∀ p ∈ cs, h.get? p.2 = some { cls := .none, data := .fields #[] }) ∧ (∀ p ∈ cs, K.lookup p.2 = none) ∧ (∀ p ∈ cs, PySem.W.CodeHd h p.1 p.2) ∧ (∀ (s : Shared) (u : Value), BindsTo s fd ⟨[u], []⟩ [(x, u)]) ∧
      (∀ (H : Hp) (a : Addr) (ns : List Int), ns.length ≤ n → (∀ p ∈ cs, H p.2 = some (.tbl #[])) → SqL K H a (ns.map V.int) → sp [.ref a] H (fun v _ => v = .bl true) fun _ _ _ => False) ∧
      ∀ base : Heap, K.In base → base.Ns mainGlobals mg → (∀ p ∈ cs, TabB base mg p.1 p.2) → FnG l.prog w K mg base k fa fd [x] sp) : PySem.W.WalkO q loose XP YP l.row.toRowW d [] (fun f vs => PySem.call f vs) := by
  refine Att.attach_call hn hdf fun w s₀ s₁ mg mb fa o pm cd doc a vs ns G Y ho hd hcd hmg hobj hints hlen hg => ?_
  obtain ⟨K, fd, cs, sp, KX, t1, t2, t3, t4, t5, t6⟩ := F w mg fa _ Y G.T.g hmg
  exact law_tabs KX G.T.g G.T.b G.T.builtins G.T.nolimit hg t1 t2 t3 G.T.bmain hobj hints (Nat.le_trans hlen hn2) rm t6 t4 (fun H hH hS => t5 H a ns hlen hH hS)
end Bf
namespace Bf
open PySem PySem.Spec PyProof.Rows L2 LamX NdefX
theorem fun_of {K : PySem.W.Frag} {x : Str} {st : Stmt} {f : Addr} {fd : FuncData} (F : FunD K x x (defArgs st) (defBody st) (defScope st) [] [] f fd) : Fun K x x st f fd := by
  obtain ⟨oc, od, dV, kV, doc, pm, an, cdv, ct, osl, e, lk, hcd, hD, hK⟩ := F.ex
  rcases hD with ⟨_, rfl⟩ | ⟨z, _⟩
  · exact ⟨⟨oc, od, kV, doc, pm, an, cdv, ct, osl, e, lk, hcd⟩, F.kp⟩
  · exact absurd rfl z
theorem walkTE {l : PySem.W.OpenLaw} {n k : Nat} {q : Program} {loose : List Str} {XP : (Str → Option Value) → Heap → Prop} {YP : World → Heap → Prop} {d : DefRec} {x : Str} (hn : l.most = some n) (hn2 : n ≤ sizeLine) (hdf : d.params.defaults = []) (rm : Room k callerA)
    (F : ∀ (w : World) (mg : Str → Option Value) (fa : Addr) (h : Heap), YP w h → h.Ns mainGlobals mg → mg d.name = some (.ref fa) → ∃ K : PySem.W.Frag, K.In h ∧ LawAtS l w K CX0 k n x mg fa h) : PySem.W.WalkO q loose XP YP l.row.toRowW d [] (fun f vs => PySem.call f vs) := by
  refine Att.attach_callB hn hdf fun w s₀ s₁ mg mb fa o pm cd doc a vs ns G Y ho hd hcd hmg hobj hints hlen hbits hg => ?_
  obtain ⟨K, KX, fd, cs, sp, t1, t2, t3, t4, t5, t6⟩ := F w mg fa _ Y G.T.g hmg
  exact law_callTs KX G.T.g G.T.b G.T.builtins G.T.nolimit hg t1 t2 t3 G.T.bmain hobj hints (Nat.le_trans hlen hn2) rm t6 t4 (fun H hH hS => t5 H a ns hlen hbits hH hS) (fun _ _ _ z => z)
def dd0 : He.DefD := ⟨("spoilt", none), "spoilt", "spoilt", defArgs sSp, defBody sSp, defScope sSp, [], [("source", He.Dv.int 0)]⟩
def dd1 : He.DefD := ⟨("tree_through", none), "tree_through", "tree_through", defArgs sTh, defBody sTh, defScope sTh, [], []⟩
def dd2 : He.DefD := ⟨("only_tree", none), "only_tree", "only_tree", defArgs sOt, defBody sOt, defScope sOt, [], []⟩
def dd3 : He.DefD := ⟨("is_on_way", none), "is_on_way", "is_on_way", defArgs sIw, defBody sIw, defScope sIw, [], []⟩
def dd4 : He.DefD := ⟨("turned", none), "turned", "turned", defArgs sTu, defBody sTu, defScope sTu, [], []⟩
def dd5 : He.DefD := ⟨("first_place", none), "first_place", "first_place", defArgs sFp, defBody sFp, defScope sFp, [], []⟩
def dd6 : He.DefD := ⟨("last_place", none), "last_place", "last_place", defArgs sLp, defBody sLp, defScope sLp, [], []⟩
def dd7 : He.DefD := ⟨("came", none), "came", "came", defArgs sCm, defBody sCm, defScope sCm, [], [("source", He.Dv.int 0)]⟩
def dd8 : He.DefD := ⟨("_law_urn", none), "_law_urn", "_law_urn", defArgs sPot, defBody sPot, defScope sPot, [], []⟩
def dd9 : He.DefD := ⟨("_law_take", none), "_law_take", "_law_take", defArgs sTake, defBody sTake, defScope sTake, [], []⟩
def dd10 : He.DefD := ⟨("_law_of", none), "_law_of", "_law_of", defArgs sOf, defBody sOf, defScope sOf, [], []⟩
def dd11 : He.DefD := ⟨("_law_rounds", none), "_law_rounds", "_law_rounds", defArgs sRo, defBody sRo, defScope sRo, [], []⟩
def dd12 : He.DefD := ⟨("_law_road", none), "_law_road", "_law_road", defArgs sRd, defBody sRd, defScope sRd, [], []⟩
def dd13 : He.DefD := ⟨("_law_spoils", none), "_law_spoils", "_law_spoils", defArgs sSo, defBody sSo, defScope sSo, [], []⟩
def dd14 : He.DefD := ⟨("_law_width", none), "_law_width", "_law_width", defArgs sWi, defBody sWi, defScope sWi, [], []⟩
def dd15 : He.DefD := ⟨("_law_hand", none), "_law_hand", "_law_hand", defArgs sHn, defBody sHn, defScope sHn, [], []⟩
def dd16 : He.DefD := ⟨("_law_origin", none), "_law_origin", "_law_origin", defArgs sOr, defBody sOr, defScope sOr, [], []⟩
def dd17 : He.DefD := ⟨("_law_shut_ones", none), "_law_shut_ones", "_law_shut_ones", defArgs sSh, defBody sSh, defScope sSh, [], []⟩
def dd18 : He.DefD := ⟨("_law_right", none), "_law_right", "_law_right", defArgs sRi, defBody sRi, defScope sRi, [], []⟩
def dd19 : He.DefD := ⟨("law", none), "law", "law", defArgs sLaw, defBody sLaw, defScope sLaw, [], []⟩
def fnL : List He.DefD := [dd0, dd1, dd2, dd3, dd4, dd5, dd6, dd7, dd8, dd9, dd10, dd11, dd12, dd13, dd14, dd15, dd16, dd17, dd18, dd19]
def faL : List He.Fa := [.glo "spoilt", .glo "tree_through", .glo "only_tree", .glo "is_on_way", .glo "turned", .glo "first_place", .glo "last_place", .glo "came", .glo "_law_urn", .glo "_law_take", .glo "_law_of", .glo "_law_rounds", .glo "_law_road", .glo "_law_spoils", .glo "_law_width", .glo "_law_hand", .glo "_law_origin", .glo "_law_shut_ones", .glo "_law_right", .glo "law", .free "len", .free "abs", .free "range", .free "max", .free "min", .free "tuple", .free "sorted", .free "int", .free "repr", .free "any"]
def tfL : List He.Defn := []
abbrev RR : PySem.W.OpenRow := PySem.W.OpenLaw.row PySem.Challenge.rw_beatferry_k33_trees_that_came
abbrev hkL : PySem.W.Hook := He.hookX 4 faL fnL [] tfL (fun _ => true)
def obL (s : PySem.W.SharedT) : He.AlX := He.obsX 4 faL fnL [] tfL (fun _ => true) (HandSHeadRun.getT s)
theorem obL_eq (s : PySem.W.SharedT) : obL s = hkL.obs s.abs := He.obsX_eq (HandSHeadRun.getT_eq s)
theorem runL (w : World) : HandSHeadRun.RunEq RR (PySem.W.view RR.prog [22]) hkL obL 5000 ["spoilt", "tree_through", "only_tree", "is_on_way", "turned", "first_place", "last_place", "came", "_law_urn", "_law_take", "_law_of", "_law_rounds", "_law_road", "_law_spoils", "_law_width", "_law_hand", "_law_origin", "_law_shut_ones", "_law_right"] w := by
  intro os
  kernel_rfl
theorem facts {l : PySem.W.OpenLaw} {w : World} {K : PySem.W.Frag} {h : Heap} {mg : Str → Option Value} {fa : Addr} (X : K.In h) (G : h.Ns mainGlobals mg) (hfa : mg ("law" : Str) = some (.ref fa)) (c : He.SaysX faL fnL [] tfL (fun _ => true) w h K) : ∃ (fd : FuncData) (cs : List (Addr × Addr)) (sp : Sp),
      (∀ p ∈ cs, h.get? p.2 = some { cls := .none, data := .fields #[] }) ∧ (∀ p ∈ cs, K.lookup p.2 = none) ∧ (∀ p ∈ cs, PySem.W.CodeHd h p.1 p.2) ∧ (∀ (s : Shared) (u : Value), BindsTo s fd ⟨[u], []⟩ [("_law_script", u)]) ∧
      (∀ (H : Hp) (a : Addr) (ns : List Int), ns.length ≤ 63 → (∀ p ∈ cs, H p.2 = some (.tbl #[])) → SqL K H a (ns.map V.int) → sp [.ref a] H (fun v _ => v = .bl true) fun _ _ _ => False) ∧
      ∀ base : Heap, K.In base → base.Ns mainGlobals mg → (∀ p ∈ cs, TabB base mg p.1 p.2) → FnG l.prog w K mg base 7 fa fd ["_law_script"] sp := by
  have cd := c.t.d
  obtain ⟨e0, F0⟩ := cd.def_ 0 (d := dd0) rfl
  have g0 := He.glo_ok X G (cd.fact 0 (f := .glo "spoilt") rfl)
  obtain ⟨e1, F1⟩ := cd.def_ 1 (d := dd1) rfl
  have g1 := He.glo_ok X G (cd.fact 1 (f := .glo "tree_through") rfl)
  obtain ⟨e2, F2⟩ := cd.def_ 2 (d := dd2) rfl
  have g2 := He.glo_ok X G (cd.fact 2 (f := .glo "only_tree") rfl)
  obtain ⟨e3, F3⟩ := cd.def_ 3 (d := dd3) rfl
  have g3 := He.glo_ok X G (cd.fact 3 (f := .glo "is_on_way") rfl)
  obtain ⟨e4, F4⟩ := cd.def_ 4 (d := dd4) rfl
  have g4 := He.glo_ok X G (cd.fact 4 (f := .glo "turned") rfl)
  obtain ⟨e5, F5⟩ := cd.def_ 5 (d := dd5) rfl
  have g5 := He.glo_ok X G (cd.fact 5 (f := .glo "first_place") rfl)
  obtain ⟨e6, F6⟩ := cd.def_ 6 (d := dd6) rfl
  have g6 := He.glo_ok X G (cd.fact 6 (f := .glo "last_place") rfl)
  obtain ⟨e7, F7⟩ := cd.def_ 7 (d := dd7) rfl
  have g7 := He.glo_ok X G (cd.fact 7 (f := .glo "came") rfl)
  obtain ⟨e8, F8⟩ := cd.def_ 8 (d := dd8) rfl
  have g8 := He.glo_ok X G (cd.fact 8 (f := .glo "_law_urn") rfl)
  obtain ⟨e9, F9⟩ := cd.def_ 9 (d := dd9) rfl
  have g9 := He.glo_ok X G (cd.fact 9 (f := .glo "_law_take") rfl)
  obtain ⟨e10, F10⟩ := cd.def_ 10 (d := dd10) rfl
  have g10 := He.glo_ok X G (cd.fact 10 (f := .glo "_law_of") rfl)
  obtain ⟨e11, F11⟩ := cd.def_ 11 (d := dd11) rfl
  have g11 := He.glo_ok X G (cd.fact 11 (f := .glo "_law_rounds") rfl)
  obtain ⟨e12, F12⟩ := cd.def_ 12 (d := dd12) rfl
  have g12 := He.glo_ok X G (cd.fact 12 (f := .glo "_law_road") rfl)
  obtain ⟨e13, F13⟩ := cd.def_ 13 (d := dd13) rfl
  have g13 := He.glo_ok X G (cd.fact 13 (f := .glo "_law_spoils") rfl)
  obtain ⟨e14, F14⟩ := cd.def_ 14 (d := dd14) rfl
  have g14 := He.glo_ok X G (cd.fact 14 (f := .glo "_law_width") rfl)
  obtain ⟨e15, F15⟩ := cd.def_ 15 (d := dd15) rfl
  have g15 := He.glo_ok X G (cd.fact 15 (f := .glo "_law_hand") rfl)
  obtain ⟨e16, F16⟩ := cd.def_ 16 (d := dd16) rfl
  have g16 := He.glo_ok X G (cd.fact 16 (f := .glo "_law_origin") rfl)
  obtain ⟨e17, F17⟩ := cd.def_ 17 (d := dd17) rfl
  have g17 := He.glo_ok X G (cd.fact 17 (f := .glo "_law_shut_ones") rfl)
  obtain ⟨e18, F18⟩ := cd.def_ 18 (d := dd18) rfl
  have g18 := He.glo_ok X G (cd.fact 18 (f := .glo "_law_right") rfl)
  obtain ⟨e19, F19⟩ := cd.def_ 19 (d := dd19) rfl
  have g19 := He.glo_ok X G (cd.fact 19 (f := .glo "law") rfl)
  have m0 := He.free_ok X G (cd.fact 20 (f := .free "len") rfl)
  have m1 := He.free_ok X G (cd.fact 21 (f := .free "abs") rfl)
  have m2 := He.free_ok X G (cd.fact 22 (f := .free "range") rfl)
  have m3 := He.free_ok X G (cd.fact 23 (f := .free "max") rfl)
  have m4 := He.free_ok X G (cd.fact 24 (f := .free "min") rfl)
  have m5 := He.free_ok X G (cd.fact 25 (f := .free "tuple") rfl)
  have m6 := He.free_ok X G (cd.fact 26 (f := .free "sorted") rfl)
  have m7 := He.free_ok X G (cd.fact 27 (f := .free "int") rfl)
  have m8 := He.free_ok X G (cd.fact 28 (f := .free "repr") rfl)
  have m9 := He.free_ok X G (cd.fact 29 (f := .free "any") rfl)
  have ee := hfa.symm.trans g19
  cases ee
  have bL := FunD.bindsA (ps := ["_law_script"]) F19 fun _ _ _ _ _ _ us hl => match us, hl with | [_], _ => rfl
  refine ⟨e19, [], spLaw K, fun p hp => absurd hp List.not_mem_nil, fun p hp => absurd hp List.not_mem_nil, fun p hp => absurd hp List.not_mem_nil, fun s v => bL s [v] rfl, fun H a ns hl hH hS => ⟨a, ns, rfl, hS, hl, fun _ => rfl⟩, fun base _ _ TB => ?_⟩
  · skip
    have f0 : FunS K "spoilt" sSp _ e0 := F0
    have q0 := kbS3 (x1 := "q") (x2 := "hand") (x3 := "lot") f0 fun _ _ _ _ _ _ _ _ _ _ => rfl
    have f1 := fun_of (st := sTh) F1
    have b1 := f1.binds (ps := ["q", "hand", "other", "source"]) fun _ _ _ _ _ _ us hl => match us, hl with | [_, _, _, _], _ => rfl
    have f2 := fun_of (st := sOt) F2
    have b2 := f2.binds (ps := ["q", "apart", "reached"]) fun _ _ _ _ _ _ us hl => match us, hl with | [_, _, _], _ => rfl
    have f3 := fun_of (st := sIw) F3
    have b3 := f3.binds (ps := ["q", "apart", "reached", "j"]) fun _ _ _ _ _ _ us hl => match us, hl with | [_, _, _, _], _ => rfl
    have f4 := fun_of (st := sTu) F4
    have b4 := f4.binds (ps := ["q", "some", "j"]) fun _ _ _ _ _ _ us hl => match us, hl with | [_, _, _], _ => rfl
    have f5 := fun_of (st := sFp) F5
    have b5 := f5.binds (ps := ["some"]) fun _ _ _ _ _ _ us hl => match us, hl with | [_], _ => rfl
    have f6 := fun_of (st := sLp) F6
    have b6 := f6.binds (ps := ["some"]) fun _ _ _ _ _ _ us hl => match us, hl with | [_], _ => rfl
    have f7 : FunS K "came" sCm _ e7 := F7
    have q7 := kbS3 (x1 := "q") (x2 := "hand") (x3 := "lot") f7 fun _ _ _ _ _ _ _ _ _ _ => rfl
    obtain ⟨ds7, v7, b7⟩ := FunD.binds0 (ps := ["q", "hand", "lot", "source"]) f7 3 (by simp) rfl (fun D doc pm an cdv ct us ks hu hk => match us, ks, hu, hk with | [_, _, _], [_], _, _ => ⟨_, _, _, _, _, _, rfl, rfl, rfl⟩)
    have f8 := fun_of (st := sPot) F8
    have b8 := f8.binds (ps := ["_law_script", "_law_nth"]) fun _ _ _ _ _ _ us hl => match us, hl with | [_, _], _ => rfl
    have f9 := fun_of (st := sTake) F9
    have b9 := f9.binds (ps := ["_law_pot", "_law_size"]) fun _ _ _ _ _ _ us hl => match us, hl with | [_, _], _ => rfl
    have f10 := fun_of (st := sOf) F10
    have b10 := f10.binds (ps := ["_law_pot", "_law_some"]) fun _ _ _ _ _ _ us hl => match us, hl with | [_, _], _ => rfl
    have f11 := fun_of (st := sRo) F11
    have b11 := f11.binds (ps := ["_law_wide", "_law_tree"]) fun _ _ _ _ _ _ us hl => match us, hl with | [_, _], _ => rfl
    have f12 := fun_of (st := sRd) F12
    have b12 := f12.binds (ps := ["_law_wide", "_law_one", "_law_tree", "_law_home"]) fun _ _ _ _ _ _ us hl => match us, hl with | [_, _, _, _], _ => rfl
    have f13 := fun_of (st := sSo) F13
    have b13 := f13.binds (ps := ["_law_wide", "_law_one", "_law_shut", "_law_home"]) fun _ _ _ _ _ _ us hl => match us, hl with | [_, _, _, _], _ => rfl
    have f14 := fun_of (st := sWi) F14
    have b14 := f14.binds (ps := ["_law_pot", "_law_most"]) fun _ _ _ _ _ _ us hl => match us, hl with | [_, _], _ => rfl
    have f15 := fun_of (st := sHn) F15
    have b15 := f15.binds (ps := ["_law_pot", "_law_wide", "_law_home"]) fun _ _ _ _ _ _ us hl => match us, hl with | [_, _, _], _ => rfl
    have f16 := fun_of (st := sOr) F16
    have b16 := f16.binds (ps := ["_law_pot", "_law_wide"]) fun _ _ _ _ _ _ us hl => match us, hl with | [_, _], _ => rfl
    have f17 := fun_of (st := sSh) F17
    have b17 := f17.binds (ps := ["_law_pot", "_law_wide", "_law_one", "_law_home", "_law_few"]) fun _ _ _ _ _ _ us hl => match us, hl with | [_, _, _, _, _], _ => rfl
    have f18 := fun_of (st := sRi) F18
    have b18 := f18.binds (ps := ["_law_pot"]) fun _ _ _ _ _ _ us hl => match us, hl with | [_], _ => rfl
    have f19 := fun_of (st := sLaw) F19
    have GTu : FnOk l.prog w K mg base CX0 1 _ _ _ _ := ok_tu f4
    have GFp : FnOk l.prog w K mg base CX0 1 _ _ _ _ := ok_fp f5
    have GLp : FnOk l.prog w K mg base CX0 1 _ _ _ _ := ok_lp f6
    have GOt : FnOk l.prog w K mg base CX0 2 _ _ _ _ := ok_ot f2 GTu f4.kp b4 g4 GFp f5.kp b5 g5 GLp f6.kp b6 g6
    have GIw : FnOk l.prog w K mg base CX0 2 _ _ _ _ := ok_iw f3 GTu f4.kp b4 g4
    have GTh : FnOk l.prog w K mg base CX0 3 _ _ _ _ := ok_th f1 GOt f2.kp b2 g2 GIw f3.kp b3 g3
    have GSp : FnOk l.prog w K mg base CX0 4 _ _ _ _ := ok_sp f0 GTh f1.kp b1 g1 m2 m5
    have GCm : FnOk l.prog w K mg base CX0 5 _ _ _ _ := ok_cm f7 GSp f0.kp q0 g0 m2 m5
    have GP : FnOk l.prog w K mg base CX0 1 _ _ _ _ := ok_pot f8 m0 m1 m7
    have GT : FnOk l.prog w K mg base CX0 1 _ _ _ _ := ok_take f9
    have GO : FnOk l.prog w K mg base CX0 2 _ _ _ _ := ok_of f10 GT f9.kp b9 g9 m0
    have GRo : FnOk l.prog w K mg base CX0 1 _ _ _ _ := ok_ro f11 m2
    have GRd : FnOk l.prog w K mg base CX0 2 _ _ _ _ := ok_rd f12 GRo f11.kp b11 g11 m2
    have GSo : FnOk l.prog w K mg base CX0 3 _ _ _ _ := ok_so f13 GRd f12.kp b12 g12 m2 m9
    have TD : Dr l.prog w K mg base _ _ _ _ := ⟨GT, f9.kp, b9, g9, GO, f10.kp, b10, g10⟩
    have TQ : Dq l.prog w K mg base _ _ _ _ _ _ := ⟨GT, f9.kp, b9, g9, GO, f10.kp, b10, g10, GRd, f12.kp, b12, g12⟩
    have GWi : FnOk l.prog w K mg base CX0 3 _ _ _ _ := ok_wi f14 TD m4
    have GHn : FnOk l.prog w K mg base CX0 3 _ _ _ _ := ok_hn f15 TD
    have GOr : FnOk l.prog w K mg base CX0 3 _ _ _ _ := ok_or f16 TD
    have GSh : FnOk l.prog w K mg base CX0 3 _ _ _ _ := ok_sh f17 TQ m2 m5 m6
    have ncm := kbP (π := [3, 2, 1, 0]) (ps := ["q", "hand", "lot", "source"]) (ks := ["source", "lot", "hand", "q"]) f7 (by decide) fun _ _ _ _ _ _ ws hl => match ws, hl with | [_, _, _, _], _ => rfl
    have GRi := ok_ri f18 ⟨GT, f9.kp, b9, g9, GO, f10.kp, b10, g10, GWi, f14.kp, b14, g14, GOr, f16.kp, b16, g16, GHn, f15.kp, b15, g15, GSh, f17.kp, b17, g17, GSo, f13.kp, b13, g13⟩ GCm f7.kp q7 ncm v7 b7 g7 m2 m5 m8 m0
    exact ok_law f19 ⟨g8, g18, m0, m2, m3, m4⟩ GP f8.kp b8 GRi f18.kp b18
end Bf
open PySem PySem.W PySem.Calls PyProof.Rows
set_option maxHeartbeats 0 in
theorem PySem.Challenge.cw_beatferry_k33_trees_that_came_holds : PySem.Challenge.rw_beatferry_k33_trees_that_came.Holds := by
  w_on; o_law
  refine HandSHeadRun.head_any (r := OpenLaw.row PySem.Challenge.rw_beatferry_k33_trees_that_came) (q := view (OpenLaw.row PySem.Challenge.rw_beatferry_k33_trees_that_came).prog [22]) (H := Bf.hkL) (ob := Bf.obL) (M := 5000) (loose := ["spoilt", "tree_through", "only_tree", "is_on_way", "turned", "first_place", "last_place", "came", "_law_urn", "_law_take", "_law_of", "_law_rounds", "_law_road", "_law_spoils", "_law_width", "_law_hand", "_law_origin", "_law_shut_ones", "_law_right"]) (d := HandSHeadRun.topDef (OpenLaw.row PySem.Challenge.rw_beatferry_k33_trees_that_came).prog 22) (kwd := []) Bf.obL_eq
    (by kernel_rfl) (fun s => by kernel_rfl) Bf.runL (by kernel_rfl) (by kernel_rfl) (by kernel_rfl) (by rfl) (by first | assumption | decide +kernel) (by decide +kernel) ⟨rfl, rfl, rfl, rfl, rfl, by decide +kernel⟩ ?hw ?hc
  case hw => w_witness2
  case hc =>
    refine Bf.walkTG (l := PySem.Challenge.rw_beatferry_k33_trees_that_came) (n := 63) (k := 7) (x := "_law_script") rfl (by decide) (by kernel_rfl) ⟨rfl, by decide, by decide⟩ ?F
    intro w mg fa h Y G hmg0
    obtain ⟨K, KX, c⟩ := Y
    have hmg : mg ("law" : PySem.Str) = some (.ref fa) := by
      have e : (HandSHeadRun.topDef (OpenLaw.row PySem.Challenge.rw_beatferry_k33_trees_that_came).prog 22).name = ("law" : PySem.Str) := by kernel_rfl
      rw [← e]
      exact hmg0
    obtain ⟨fd, cs, sp, h1, h2, h3, h4, h5, h6⟩ := Bf.facts (l := PySem.Challenge.rw_beatferry_k33_trees_that_came) (w := w) KX G hmg c; exact ⟨K, fd, cs, sp, KX, h1, h2, h3, h4, h5, h6⟩
