import PyProof.Rows.All
import Wide.All
import OpenK.AllK
import Wide.FinOn
import HandS.ForMost
import HandS.More
import HandS.Wide
import HandS.WideBits
import HandS.TupAny
import HandS.TupMul
import HandS.Style
import HandS.RaiseMore
import KE.SortKeyHeap
import KE.KLam
import HandS.SortKw
import HandS.Lambda
import HandS.Nested
import HandS.EndTab
import HandS.Conv
import HandS.Defaults
import HandS.Zip
import HandS.Walk
import HandS.Comp
import HandS.Rev
import HandS.Flow
import HandS.SetFor
import HandS.Strs
import HandS.Iter
import KE.GoesMore
import HandS.Head0
import HandS.Head1
import HandS.Head2
import HandS.HeadEnd
import HandS.HeadHook1
import HandS.HeadHook2
import HandS.HeadHook4
import PySem.Challenge.RW_beatferry_k32_letters_round_by_round
set_option Elab.async false
set_option linter.all false
set_option maxRecDepth 100000
set_option maxHeartbeats 4000000
namespace Bf
open PySem PySem.Spec PyProof.Rows L2

/-! ### defs whose calls stand under no repr -/
structure FnG (P : Program) (w : World) (K : PySem.W.Frag) (mg : Str → Option Value) (base : Heap) (k : Nat) (f : Addr) (fd : FuncData) (ps : List Str) (sp : Sp) : Prop where
  len : ∀ vs H Q E, sp vs H Q E → vs.length = ps.length
  go : ∀ (A : Around) (outer : List Env) (s : Shared) (H : Hp) (args : Args) (us : List Value) (vs : List V) (Q : VK) (E : XK), A.guards = some [] → Room k A →
    Env0 P w K mg base A outer s H → BindsTo s fd args (ps.zip us) → Vals vs us → sp vs H Q E → codeAny (model P w) A (.call (.ref f) args) (CR CX0 outer P w H s Q E) s

theorem fnG_of {P : Program} {w : World} {K : PySem.W.Frag} {mg : Str → Option Value} {base : Heap} {x qual : Str} {st : Stmt} {f : Addr} {fd : FuncData} {N ps : List Str} {k : Nat} {sp : Sp}
    (F : Fun K x qual st f fd) (S : FnScope N ps (defScope st)) (len : ∀ vs H Q E, sp vs H Q E → vs.length = ps.length)
    (body : ∀ (cdv : Value) (A : Around) (outer : List Env) (s : Shared) (H : Hp) (vs : List V) (Q : VK) (E : XK), (A.deeper (envOfC qual (defScope st) s.heap.objs.size f cdv)).guards = some [] →
      Room k (A.deeper (envOfC qual (defScope st) s.heap.objs.size f cdv)) → sp vs H Q E →
      ∃ t, PSs (cxOf CX0 P w K mg base N qual (defScope st) f cdv A outer s H E).nox (defBody st) t ∧ t { nx := fun _ H' => Q .non H', rt := Q } (start N vs) H) : FnG P w K mg base (k + 1) f fd ps sp := by
  obtain ⟨oc, od, kV, doc, pm, an, cdv, ct, osl, rfl, lk, hcd⟩ := F.ex
  refine ⟨len, fun B out s G args us vs Q E gd rm en hb rl hs => ?_⟩
  have ln := len _ _ _ _ hs
  have kx : K.In s.heap := en.mod.kin.keeps fun b o e => (en.bs b o e).1
  have nl : s.heap.NoLimit := en.mod.nolimit.keeps fun b o e => (en.bs b o e).1
  have kinds : ∀ y ∈ ps.zip us, (defScope st).names.lookup y.1 = some .local ∨
      ((defScope st).names.lookup y.1 = some .cell ∧ ((cellsFrom (s.heap.objs.size + 1) (defScope st).names []).lookup y.1).isSome = true) := fun ⟨n, v⟩ hy =>
    (S.par n (List.of_mem_zip hy).1).elim (fun q => .inl q) fun q => .inr ⟨q, PySem.W.cellsFrom_some _ _ _ (.inl q)⟩
  refine codeAny_call_function rm.depth (kx _ _ lk) rfl S.co S.gen rfl (PySem.W.codeRec_of kx hcd) (hb _ _ _ _ ?_)
  refine wpAny_newFunctionEnv_cells S.kind kinds fun env he s1 x1 => ?_
  subst he
  refine ⟨nl.keeps x1.toInCall.keep, codeAny_func ?_⟩
  obtain ⟨t, ht, hq⟩ := body cdv B out s G vs Q E gd (rm.deeper _) hs
  have J0 : Inv (cxOf CX0 P w K mg base N qual (defScope st) f cdv B out s G E) [] (start N vs) G s1 := inv_start S rm.hd en ln rl x1
  refine wpAny_mono (ht.nox.run [] s1 (start N vs) G _ J0 hq) (fun fl s' hs' => ?_) fun e s' hs' => hs'
  cases fl with
  | ret u => exact let ⟨v, _, H', J, rv, q⟩ := hs'; ⟨v, H', J.os, J.bare, J.base, J.hok, rv, q⟩
  | next => exact let ⟨_, H', J, q⟩ := hs'; ⟨V.non, H', J.os, J.bare, J.base, J.hok, rfl, q⟩
  | brk => exact let ⟨_, _, _, q⟩ := hs'; False.elim q
  | cont => exact let ⟨_, _, _, q⟩ := hs'; False.elim q

section
variable {X : Cx} {x : Str} {p pos : Pos} {e : Expr} {es : List Expr} {t : TA} {k : Nat} {f : Addr} {fd : FuncData} {ps : List Str} {sp : Sp} {ds : List Value} {dvs : List V} {E : XK}
theorem runG {pins : List (Addr × Obj)} {σ : L2.St} {H : Hp} {s : Shared} {Q : VK} {us : List Value} {vs : List V} (F : FnG X.prog X.w X.K X.mg X.base k f fd ps sp) (gd : X.A.guards = some []) (hr : Room k X.A) (hb : Binds X.K fd ps ds) (hd : Vals dvs ds)
    (I : Inv X pins σ H s) (r : Vals vs us) (h : sp (vs ++ dvs) H Q E) : wpAny (model X.prog X.w) X.A (call (.ref f) us) (EP X pins σ Q) X.xe s := by
  have rr : Vals (vs ++ dvs) (us ++ ds) := r.append hd
  have ll : (us ++ ds).length = ps.length := rr.length.symm.trans (F.len _ _ _ _ h)
  refine wpAny_call (codeAny_mono (F.go X.A X.stack s H ⟨us, []⟩ (us ++ ds) (vs ++ dvs) Q E gd hr I.env0 (hb s us I.kIn ll) rr h) fun z s' hq => ?_)
  match z, hq with
  | .error _, hq => exact hq.elim
  | .ok (.ret _), hq => exact I.after hq
  | .ok .next, hq => exact False.elim hq
  | .ok .brk, hq => exact False.elim hq
  | .ok .cont, hq => exact False.elim hq
theorem pe_callG (F : FnG X.prog X.w X.K X.mg X.base k f fd ps sp) (gd : X.A.guards = some []) (hr : Room k X.A) (hg : Gl X x) (hm : X.mg x = some (.ref f)) (hk : PySem.W.keepIn X.K (.ref f) = true) (hb : Binds X.K fd ps ds) (hd : Vals dvs ds)
    (ha : PA X (e :: es) t) (hdb : (x == ("__debug__" : Str)) = false := by decide) (he : starEach (e :: es) X.env = (false, eval e X.env) :: starEach es X.env := by rfl) (hpl : (backTo pos (starEach es X.env)).any (·.1) = false := by rfl) :
    PE X (.Call (.Name x p) (e :: es) [] pos) (tCall sp dvs E t) :=
  ⟨fun pins s σ H Q I h => wpAny_Call_Name_kw (ld_glob I hg hm (PySem.W.callWith_K (h₀ := X.base) I.ok.mod.kin hk
    (thn (ha.run pos pins s σ H _ I h) fun us s1 ⟨vs, H1, I1, r, q⟩ => ⟨I1.kIn, runG F gd hr hb hd I1 r q⟩) he hpl) hdb)⟩

/-! ### repr of data -/
theorem call_reprD (gd : X.A.guards = some []) (hu : X.A.units + 64 < cLine) : CallR X (.builtin "repr") (fun xs H Q => ∃ a d, xs = [.ref a] ∧ Dp X.K H (.ref a) d ∧ d.showable = true ∧ d.hasDict = false ∧ d.depth < 60 ∧ d.shown.length ≤ sizeLine ∧ Q (.str d.shown) H) := by
  intro pins s σ H xs us Q I r h
  obtain ⟨a, d, rfl, hd, h1, h2, h3, h4, q⟩ := h
  obtain ⟨u, rfl, ru⟩ := vals1 r
  obtain ⟨as, rd⟩ := Dp.reads I d _ u hd ru
  cases ru
  refine repr_of_reads' rd h1 (PyData.noDict_hsm h2) gd (by omega) (fun _ _ z => z) (fun h' u tk hk => ?_) h4
  exact ⟨.str d.shown, H, I.kept hk, ⟨u, rfl⟩, q⟩
theorem call_reprN : CallR X (.builtin "repr") (fun xs H Q => ∃ i, xs = [.int i] ∧ i.natAbs.log2 < 1920 ∧ Q (.str (toString i)) H) := by
  intro pins s σ H xs us Q I r h
  obtain ⟨i, rfl, hz, q⟩ := h
  obtain ⟨u, rfl, t, rfl⟩ := vals1 r
  exact PySem.P.repr_of_int hz ⟨.str (toString i), H, I.tok _, ⟨_, rfl⟩, q⟩

/-! ### calls by names alone -/
theorem pe_callK0 {CX : CXT} {kws : List Keyword} {tk : TA} {ks : List Str} {g : List Value → List Value → List Value} {gV : List V → List V → List V} (F : FnOk X.prog X.w X.K X.mg X.base CX k f fd ps sp) (hr : Room k X.A) (hg : Gl X x)
    (hm : X.mg x = some (.ref f)) (hk : PySem.W.keepIn X.K (.ref f) = true) (hb : KBinds X.K fd ps ks g gV) (hx : Passes CX X E) (hkw : PK X kws tk)
    (hall : (backToKw pos (keywordEach kws X.env)).all (·.1.isSome) = true := by rfl) (hks : (backToKw pos (keywordEach kws X.env)).filterMap (·.1) = ks := by rfl) (hdb : (x == ("__debug__" : Str)) = false := by decide)
    (hpl : ((backTo pos (starEach [] X.env)).any (·.1) || (backToKw pos (keywordEach kws X.env)).any (·.1.isNone)) = false := by rfl) : PE X (.Call (.Name x p) [] kws pos) (tCallK sp gV E tNil tk) := by
  refine ⟨fun pins s σ H Q I h => wpAny_Call_Name_kw (ld_glob I hg hm (PySem.W.callWith_KW0 (h₀ := X.base) I.ok.mod.kin hk hall ?_ hpl) hdb)⟩
  refine thn (hkw.run pos pins s σ H _ I h) fun ws s2 ⟨zs, H2, I2, rz, q2⟩ => ⟨I2.kIn, ?_⟩
  rw [hks]
  exact run_fnk F hr hb hx I2 .nil rz q2

/-! ### t[::-1], t a tuple -/
end
section
variable {prog : Program} {w : World} {A : Around} {E : Value → Shared → Prop} {s : Shared}
theorem back_adjust (n : Nat) : Builtin.Slice.sliceAdjust none none (-1) (n : Int) = ((n : Int) - 1, -1) := by
  unfold Builtin.Slice.sliceAdjust
  rfl
theorem back_places (n : Nat) : Builtin.Slice.slicePlaces ((n : Int) - 1) (-1) (-1) = n := by
  unfold Builtin.Slice.slicePlaces
  have h1 : ¬ ((-1 : Int) > 0) := by omega
  simp only [h1, if_false, Int.neg_neg, Int.ediv_one]
  split <;> omega
theorem back_pick (xs : Array Value) : ((List.range xs.size).filterMap fun (k : Nat) => xs[((xs.size : Int) - 1 + (k : Int) * (-1)).toNat]?).toArray = xs.toList.reverse.toArray := by
  have e : ((List.range xs.size).filterMap fun (k : Nat) => xs[((xs.size : Int) - 1 + (k : Int) * (-1)).toNat]?) = ((List.range xs.size).map fun k => xs.size - 1 - k).filterMap (xs[·]?) := by
    rw [List.filterMap_map]
    have h : ∀ l : List Nat, l.filterMap (fun (k : Nat) => xs[((xs.size : Int) - 1 + (k : Int) * (-1)).toNat]?) = l.filterMap ((fun x => xs[x]?) ∘ fun k => xs.size - 1 - k) := by
      intro l
      induction l with
      | nil => rfl
      | cons k l ih =>
        have ek : ((xs.size : Int) - 1 + (k : Int) * (-1)).toNat = xs.size - 1 - k := by omega
        simp only [List.filterMap_cons, ih, Function.comp, ek]
    exact h _
  rw [e, PySem.W.krv_range, List.filterMap_reverse, PySem.W.krv_all]
theorem back_applied {sl : Addr} {vl vu vs : Value} {n : Nat} {Q : Int × Int × Nat → Shared → Prop} (hs : s.heap.IsSliceOf sl vl vu vs) (pl : IsPart vl none) (pu : IsPart vu none) (pk : IsPart vs (some (-1)))
    (h : Q ((n : Int) - 1, -1, n) s) : wpAny (model prog w) A (Builtin.Slice.sliceApplied (.ref sl) (pure (n : Int))) Q E s := by
  obtain ⟨os, ho, _, hd⟩ := id hs
  unfold Builtin.Slice.sliceApplied Builtin.Slice.sliceFields
  refine wpAny_bind (wpAny_bind (wpAny_field ho hd (x := vl) rfl (wpAny_bind (wpAny_field ho hd (x := vu) rfl (wpAny_bind (wpAny_field ho hd (x := vs) rfl (wpAny_pure ?_)))))))
  refine wpAny_bind (HT.slicePart_ pk ?_)
  show wpAny _ _ (if ((-1 : Int) == 0) = true then _ else _) _ _ s
  rw [if_neg (by decide)]
  refine wpAny_bind (HT.slicePart_ pl (wpAny_bind (HT.slicePart_ pu (wpAny_bind (wpAny_pure ?_)))))
  show wpAny _ _ (match Builtin.Slice.sliceAdjust none none (-1) (n : Int) with | (lo, hi) => pure (lo, (-1 : Int), Builtin.Slice.slicePlaces lo hi (-1))) _ _ s
  rw [back_adjust n]
  show wpAny _ _ (pure ((n : Int) - 1, (-1 : Int), Builtin.Slice.slicePlaces ((n : Int) - 1) (-1) (-1))) _ _ s
  rw [back_places]
  exact wpAny_pure h
theorem getItem_tuple_back {t sl : Addr} {items : Array Value} {vl vu vs : Value} {Q : Value → Shared → Prop} (ht : IsTup s.heap t items) (hs : s.heap.IsSliceOf sl vl vu vs) (pl : IsPart vl none) (pu : IsPart vu none) (pk : IsPart vs (some (-1)))
    (h : Q (.ref s.heap.objs.size) { s with heap := s.heap.push { cls := .type "tuple", data := .seq items.toList.reverse.toArray } }) (hsz : items.size ≤ sizeLine) : wpAny (model prog w) A (getItem (.ref t) (.ref sl)) Q E s := by
  have hz : sizeOk (.seq items.toList.reverse.toArray) := by
    show items.toList.reverse.toArray.size ≤ sizeLine
    rw [List.size_toArray, List.length_reverse, Array.length_toList]
    exact hsz
  obtain ⟨os, ho, hcs, _⟩ := id hs
  have hT : s.TypeIs (.ref sl) "slice" := ⟨os, ho, hcs⟩
  unfold getItem
  try with_reducible refine wpAny_holding ?_
  first | refine wpAny_bind (wpAny_pure ?_) | skip
  refine wpAny_bind (wpAny_sequenceKey ht.typeIs (by decide) ?_)
  refine wpAny_bind (wpAny_callSpecial?_slot (name := Str.ofString "__getitem__") ht.typeIs PyProof.Rows.slot_tuple_getitem (wpAny_call_entry PyProof.Rows.slot_tuple_getitem ht.typeIs entry_tuple_getitem ?_ (args_tuple_getitem _ _)))
  show wpAny _ _ (Builtin.Tuple.tupleItemsOf (.ref t) >>= _) _ _ s
  refine wpAny_bind (tupleItemsOf_ ht ?_)
  refine wpAny_bind (wpAny_typeOf hT ?_)
  rw [if_pos (by decide)]
  refine wpAny_bind (back_applied hs pl pu pk ?_)
  have hno : ¬ ((((items.size : Int) - 1) == 0 && (-1 : Int) == 1 && items.size == items.size) = true) := by
    intro q
    rw [Bool.and_eq_true, Bool.and_eq_true] at q
    exact absurd (eq_of_beq q.1.2) (by decide)
  show wpAny _ _ (if (((items.size : Int) - 1) == 0 && (-1 : Int) == 1 && items.size == items.size) = true then _ else _) _ _ s
  rw [if_neg hno, back_pick]
  first
    | exact wpAny_bind (m := Builtin.Tuple.tupleExact _) (wpAny_newObj_type (wpAny_pure ⟨_, rfl, wpAny_pure h⟩) hz)
    | exact wpAny_bind (m := Builtin.Tuple.tupleExact _) (wpAny_newObj_type (wpAny_bind (wpAny_pure (wpAny_pure ⟨_, rfl, wpAny_pure h⟩))) hz)
    | exact wpAny_bind (wpAny_bind (m := Builtin.Tuple.tupleExact _) (wpAny_newObj_type (wpAny_pure (wpAny_pure ⟨_, rfl, wpAny_pure h⟩)) hz))
    | exact wpAny_bind (wpAny_bind (m := Builtin.Tuple.tupleExact _) (wpAny_newObj_type (wpAny_pure ⟨_, rfl, wpAny_pure h⟩) hz))
end
section
variable {X : Cx} {x : Str} {p pos : Pos} {e : Expr} {es : List Expr} {t : TA} {k : Nat} {f : Addr} {fd : FuncData} {ps : List Str} {sp : Sp} {ds : List Value} {dvs : List V} {E : XK}
def tRevT (K : PySem.W.Frag) (te : TE) : TE := fun σ H Q => te σ H fun x H1 => ∃ a xs, x = .ref a ∧ SqT K H1 a xs ∧ ∀ p, H1 p = none → Q (.ref p) (upd H1 p (.tup xs.reverse))
theorem pe_revT {te : TE} {k : Nat} {p1 p2 p3 : Pos} (he : PE X e te) : PE X (.Subscript e (.Slice none none (some (.UnaryOp .USub (.Constant (.int 1) k p1) p2)) p3) pos) (tRevT X.K te) := by
  refine ⟨fun pins s σ H Q I h => Subscript_ (thn (he.run pins s σ H _ I h) fun v s1 ⟨y, H1, I1, r1, a, xs, ey, hx, q⟩ => ?_)⟩
  subst ey
  cases r1
  have hst : PO X (some (.UnaryOp .USub (.Constant (.int 1) k p1) p2)) (tPart (tUn (rU fun i => .int (-i)) (tC (.int 1)))) := po_some (pe_un un_neg pe_int)
  refine wpAny_Slice (thn (po_none.run pins s1 σ H1 (fun o H2 => o = none ∧ H2 = H1) I1 ⟨rfl, rfl⟩) fun vl s2 ⟨l, H2, I2, pl, el, e2⟩ => ?_)
  subst el e2
  refine thn (po_none.run pins s2 σ H2 (fun o H3 => o = none ∧ H3 = H2) I2 ⟨rfl, rfl⟩) fun vu s3 ⟨u, H3, I3, pu, eu, e3⟩ => ?_
  subst eu e3
  refine thn (hst.run pins s3 σ H3 (fun o H4 => o = some (-1) ∧ H4 = H3) I3 ⟨1, rfl, -1, rfl, rfl, rfl⟩) fun vs s4 ⟨o, H4, I4, pk, eo, e4⟩ => ?_
  subst eo e4
  have J : Inv X pins σ H4 { s4 with heap := s4.heap.push { cls := .type "slice", data := .fields #[vl, vu, vs] } } := I4.kept (t' := s4.toks) fun b ob q => Heap.get?_push_of_some _ q
  obtain ⟨its, r, ht, hz⟩ := J.tuple hx
  show wpAny (model X.prog X.w) X.A (subscriptTail e (.Slice none none (some (.UnaryOp .USub (.Constant (.int 1) k p1) p2)) p3) (.ref a) (.ref s4.heap.objs.size)) (EP X pins σ Q) X.xe { s4 with heap := s4.heap.push { cls := .type "slice", data := .fields #[vl, vu, vs] } }
  refine tail_any (ops := [.ref a, .ref s4.heap.objs.size]) ht.typeIs (PyProof.Rows.slot_tuple_getitem.lookup) ?_ (by with_unfolding_all rfl)
  refine getItem_tuple_back ht (Heap.IsSliceOf.new _ vl vu vs) pl pu pk ?_ (by rw [List.size_toArray, ← r.length]; exact hz)
  refine ⟨.ref _, _, J.laid (t' := s4.toks) (o := .tup xs.reverse) (fun b ob q => Heap.get?_push_of_some _ q) (Nat.le_refl _) ?_, rfl, q _ (J.hok.fresh (Nat.le_refl _))⟩
  exact ⟨by rw [List.length_reverse]; exact hz, its.reverse, r.reverse, IsTup.new _ _⟩

/-! ### t * k, whatever t is -/
def rRepA (K : PySem.W.Frag) : R2 := fun x y H Q => ∃ l k xs, x = .ref l ∧ y = .int k ∧ SqT K H l xs ∧ 2 ≤ k ∧ k ≤ 1000 ∧ xs.length ≤ 1000 ∧
  (xs = [] → Q (.ref l) H) ∧ (xs ≠ [] → ∀ p, H p = none → Q (.ref p) (upd H p (.tup (List.replicate k.toNat xs).flatten)))
theorem tuple_mul0 (l : Addr) (items : Array Value) (n : Nat) (dd : Option Addr) (sl : Array (Option Value)) (x : Int) (u : Tok) (c0 : (decide (x < -(2 ^ 63)) || decide (x ≥ 2 ^ 63)) = false) (c1 : (items.isEmpty || x == 1) = true) :
    Meets (Builtin.«tuple.__mul__» ⟨[.ref l, .int x u], []⟩) (fun _ R s => s.heap.get? l = some { cls := .type "tuple", dict := dd, data := .seq items n, slots := sl } ∧ R (.ok (.ret (Value.ref l))) s) :=
  .of_wp fun prog w A R s h => by
    obtain ⟨hp, g, d, tk, os⟩ := s
    obtain ⟨hl, h⟩ := h
    have f1 := AutoSeq1.idx_int
    wp_walk using wpAny_loadPart' hl
    repeat (first
      | (refine wpAny_ite_false (decide_eq_false (by rw [c0]; exact Bool.false_ne_true)) ?_; wp_walk using wpAny_loadPart' hl)
      | (refine wpAny_ite_true (decide_eq_true c1) ?_; wp_walk using wpAny_loadPart' hl))
    exact ⟨_, rfl, h⟩
theorem op_repA : OpR X (binaryOp .Mult) (rRepA X.K) := by
  intro pins s σ H x y v u Q I rx ry h
  obtain ⟨l, k, xs, rfl, rfl, hT, h1, h2, hz, q0, q1⟩ := h
  by_cases hx : xs = []
  · subst hx
    cases rx
    obtain ⟨t, rfl⟩ := ry
    obtain ⟨its, r, ⟨⟨cls, dd, data, sl⟩, ho, hc, n, hd⟩, hs⟩ := I.tuple hT
    simp only at hc hd
    subst hc hd
    cases r
    have c0 : (decide (k < -(2 ^ 63)) || decide (k ≥ 2 ^ 63)) = false := by
      rw [decide_eq_false (by omega), decide_eq_false (by omega)] <;> rfl
    exact wpAny_binaryOp_repeat_ref (T := "tuple") (U := "int") (by decide) ⟨_, ho, rfl⟩ (fun s' => typeIs_int s' k t) noFill_tuple_mul F.fills_int_mul F.slot_int_rmul repeat_tuple F.slot_int_index.lookup
      (call_meets F.slot_int_rmul (typeIs_int s k t) F.entry_int_rmul (F.args_int_rmul_2 _ _) (int_rmul_tuple k t l ([] : List Value).toArray n dd sl)
        ⟨ho, rfl, ⟨_, ho, rfl⟩, call_meets F.slot_tuple_mul ⟨_, ho, rfl⟩ F.entry_tuple_mul (F.args_tuple_mul_2 _ _) (tuple_mul0 l ([] : List Value).toArray n dd sl k t c0 (by rfl)) ⟨ho, ⟨.ref l, H, I, rfl, q0 rfl⟩⟩⟩)
  · exact op_repT pins s σ H _ _ v u Q I rx ry ⟨l, k, xs, rfl, rfl, hT, hx, h1, h2, hz, q1 hx⟩
end
end Bf
namespace Bf
open PySem PySem.W PyProof.Rows
/-! ### sorted(t, key=f), f's calls keep all, the frames up to their slots -/
def KS (fs : List Addr) (h h' : Heap) : Prop := ∀ b o, h.get? b = some o → (b ∉ fs → h'.get? b = some o) ∧ ∃ sl, h'.get? b = some { o with slots := sl }
def SS (fs : List Addr) (s s' : Shared) : Prop := KS fs s.heap s'.heap ∧ s'.os = s.os ∧ AllBare s'.gens
theorem KS.trans {fs : List Addr} {h h' h'' : Heap} (x : KS fs h h') (y : KS fs h' h'') : KS fs h h'' := fun b o e => by
  obtain ⟨x1, sl, x2⟩ := x b o e
  refine ⟨fun n => (y b o (x1 n)).1 n, ?_⟩
  obtain ⟨_, sl2, y2⟩ := y b _ x2
  exact ⟨sl2, y2⟩
theorem KS.of {fs : List Addr} {h h' : Heap} (x : ∀ b o, h.get? b = some o → h'.get? b = some o) : KS fs h h' := fun b o e => ⟨fun _ => x b o e, o.slots, x b o e⟩
section
variable {prog : Program} {w : World} {A : Around} {E : Value → Shared → Prop} {s : Shared} {a kS : Addr} {b : Bool} {vs : List Value} {e e1 : Nat} {P : PySem.Fin → Shared → Prop} {kz : List Int} {fs : List Addr}
theorem ints_alike (kz : List Int) : AllAlike (kz.map PyData.int) := fun d hd d' hd' => by
  obtain ⟨i, _, rfl⟩ := List.mem_map.mp hd
  obtain ⟨j, _, rfl⟩ := List.mem_map.mp hd'
  rfl
theorem ints_sortable (kz : List Int) : Sortable (kz.map PyData.int) := .inr fun d hd => by
  obtain ⟨i, _, rfl⟩ := List.mem_map.mp hd
  exact ⟨(fun z => nomatch z), fun xs z => nomatch z⟩
theorem ints_each (g : Heap) {l : List Value} {ks : List Int} (hk : IntsAre l ks) : EachIs (fun v k => ∃ as, Reads g v k as) l (ks.map PyData.int) := by
  induction hk with
  | nil => exact .nil
  | cons n t _ ih => exact .cons ⟨_, Reads.int n t⟩ ih
theorem keyS_rest {f : Value} {s₀ : Shared} (k0 : SS fs s₀ s) (hkS : s₀.heap.get? kS = none) (ha0 : s₀.heap.get? a = none) (fk : kS ∉ fs) (fa : a ∉ fs) (nk : s.heap.get? kS = some (seqObj "list" #[] 0)) (na : s.heap.get? a = some (seqObj "list" #[] e1)) (hka : kS ≠ a)
    (hlen : kz.length = vs.length) (hZ : vs.length ≤ sizeLine) (hu : A.units + 1 < cLine)
    (turn : ∀ (i : Nat) (v : Value) (n : Int), vs[i]? = some v → kz[i]? = some n → ∀ s1 : Shared, SS fs s₀ s1 → wpAny (model prog w) A (call f [v]) (fun u s2 => (∃ t, u = .int n t) ∧ SS fs s1 s2) (fun _ _ => False) s1)
    (h : ∀ s2 out c, SS fs s₀ s2 → s2.heap.get? a = some (seqObj "list" (List.toArray out) c) → KeyedOut b (kz.map PyData.int) vs out → P (.done (.ret .none)) s2) :
    wpAny (model prog w) A (ksk_rest a f b vs.toArray e1 (.ref kS)) P E s := by
  unfold ksk_rest
  refine wpAny_bind (wpAny_rule ?_)
  first
    | rw [List.forIn_toArray]
    | (rw [← Array.forIn_toList]; simp only [List.toList_toArray])
    | rw [← Array.forIn_toList]
  refine wpAny_bind (ksk_fold (fun i z => ∃ kA c, SS fs s₀ z ∧ z.heap.get? kS = some (seqObj "list" kA c) ∧ z.heap.get? a = some (seqObj "list" #[] e1) ∧ IntsAre kA.toList (kz.take i)) vs 0 s ⟨#[], 0, k0, nk, na, by rw [List.take_zero]; exact .nil⟩ ?step ?done)
  case step =>
    rintro j x z hx ⟨kA, c, kp, nk', na', hk⟩
    simp only [Nat.zero_add] at hk ⊢
    have hj : j < vs.length := (List.getElem?_eq_some_iff.mp hx).1
    obtain ⟨n, hn⟩ : ∃ n, kz[j]? = some n := ⟨_, List.getElem?_eq_getElem (by omega)⟩
    have hz : kA.size ≤ vs.length := by
      have h1 := hk.length
      rw [Array.length_toList, List.length_take] at h1
      omega
    refine wpAny_bind (wpAny_attempt (wpAny_mono (turn j x n hx hn z kp) (fun v z2 he => ?_) fun _ _ hF => hF.elim))
    obtain ⟨⟨t, rfl⟩, g1, g2, g3⟩ := he
    try dsimp only
    have nk2 : z2.heap.get? kS = some (seqObj "list" kA c) := (g1 _ _ nk').1 fk
    have na2 : z2.heap.get? a = some (seqObj "list" #[] e1) := (g1 _ _ na').1 fa
    have s1 := Heap.SameBut.update z2.heap kS (Obj.mapSeq (·.push (.int n t)))
    obtain ⟨c2, hc2⟩ : ∃ c2, (z2.heap.update kS (Obj.mapSeq (·.push (.int n t)))).get? kS = some (seqObj "list" (kA.push (.int n t)) c2) := ⟨_, get?_update_seq nk2 (·.push (.int n t))⟩
    refine wpAny_bind (listUpdate_at nk2 rfl ?_ (Nat.le_trans hz hZ) (Nat.le_trans (Nat.le_of_eq (Array.size_push ..)) (Nat.succ_le_succ (Nat.le_trans hz hZ))))
    refine wpAny_pure ⟨rfl, kA.push (.int n t), c2, ⟨?_, g2.trans kp.2.1, g3⟩, hc2, (s1.2 a hka.symm).trans na2, ?_⟩
    · have q := kp.1.trans g1
      intro d o ed
      obtain ⟨q1, sl, q2⟩ := q d o ed
      have hd : d ≠ kS := fun z => by rw [z, hkS] at ed; cases ed
      exact ⟨fun m => (s1.2 d hd).trans (q1 m), sl, (s1.2 d hd).trans q2⟩
    · have ek : kz.take (j + 1) = kz.take j ++ [n] := by rw [List.take_add_one, hn]; simp
      have ea : (kA.push (Value.int n t)).toList = kA.toList ++ [Value.int n t] := by simp
      rw [ea, ek]
      exact ksk_snoc hk
  case done =>
    rintro z ⟨kA, c, kp, nk', na', hk⟩
    have e3 : kz.take (0 + vs.length) = kz := List.take_of_length_le (by omega)
    rw [e3] at hk
    have hk' : EachIs (fun v k => ∃ as, Reads z.heap v k as) kA.toList (kz.map PyData.int) := ints_each z.heap hk
    have hsz : kA.size = vs.length := by
      have h1 := hk.length
      rw [Array.length_toList] at h1
      omega
    try dsimp only
    refine wpAny_bind (listItems_at nk' rfl ?_)
    refine keyH_end (s := z) (κ := dataKind z.heap (kz.map PyData.int)) (h₁ := L2.hidT z.heap (fun d => if d = kS then some (.own 0) else none)) (fun d o hd ed => (L2.of_hidT ed).1) ?_ nk' na' hka
      (SortsAt.data (s := z) hk' (ints_alike kz) (ints_sortable kz) fun d hd => ?_) hsz hZ fun h3 tk3 c3 k3 n3 => h _ _ c3 ⟨?_, kp.2.1, kp.2.2⟩ n3 ⟨z.heap, kA.toList, ints_alike kz, rfl, hk'⟩
    · cases q : (L2.hidT z.heap (fun d => if d = kS then some (.own 0) else none)).get? kS with
      | none => rfl
      | some o =>
        have q2 := (L2.of_hidT q).2
        rw [if_pos rfl] at q2
        cases q2
    · obtain ⟨i, _, rfl⟩ := List.mem_map.mp hd
      show A.units + 0 < cLine
      omega
    · intro d o ed
      obtain ⟨q1, sl, q2⟩ := kp.1 d o ed
      have hd : d ≠ kS := fun z => by rw [z, hkS] at ed; cases ed
      have hda : d ≠ a := fun z => by rw [z, ha0] at ed; cases ed
      have up : ∀ o', z.heap.get? d = some o' → h3.get? d = some o' := fun o' e' => k3 d o' hda (L2.hidT_get e' (if_neg hd))
      exact ⟨fun m => up _ (q1 m), sl, up _ q2⟩
theorem keyS_tree {f : Value} {n : Nat} {s₀ : Shared} (k0 : SS fs s₀ s) (ha0 : s₀.heap.get? a = none) (hfs : ∀ d ∈ fs, d < s.heap.objs.size) (fa : a ∉ fs) (ho : s.heap.get? a = some (seqObj "list" vs.toArray n)) (hlen : kz.length = vs.length) (hZ : vs.length ≤ sizeLine) (hu : A.units + 1 < cLine)
    (turn : ∀ (i : Nat) (v : Value) (n : Int), vs[i]? = some v → kz[i]? = some n → ∀ s1 : Shared, SS fs s₀ s1 → wpAny (model prog w) A (call f [v]) (fun u s2 => (∃ t, u = .int n t) ∧ SS fs s1 s2) (fun _ _ => False) s1)
    (h : ∀ s2 out c, SS fs s₀ s2 → s2.heap.get? a = some (seqObj "list" (List.toArray out) c) → KeyedOut b (kz.map PyData.int) vs out → P (.done (.ret .none)) s2) : wpAny (model prog w) A (ksk_tree a f b) P E s := by
  have la : a < s.heap.objs.size := Heap.lt_size ho
  obtain ⟨e1, o1⟩ : ∃ e1, (s.heap.update a (Obj.mapSeq fun _ => (#[] : Array Value))).get? a = some (seqObj "list" #[] e1) := ⟨_, get?_update_seq ho fun _ => #[]⟩
  have zS : ((s.heap.update a (Obj.mapSeq fun _ => (#[] : Array Value))).push (seqObj "tuple" vs.toArray 0)).objs.size = s.heap.objs.size + 1 := by rw [size_push', Heap.size_update]
  have nS : s₀.heap.get? (s.heap.objs.size + 1) = none := by
    cases q : s₀.heap.get? (s.heap.objs.size + 1) with
    | none => rfl
    | some o =>
      obtain ⟨_, sl, q2⟩ := k0.1 _ _ q
      exact absurd (Heap.lt_size q2) (Nat.not_lt.mpr (Nat.le_succ _))
  unfold ksk_tree
  refine wpAny_bind (listItems_at ho rfl ?_)
  refine wpAny_bind (listUpdate_at ho rfl ?_ (by rw [List.size_toArray]; exact hZ) (Nat.zero_le _))
  refine wpAny_bind (seqEpoch_at o1 rfl ?_)
  refine wpAny_bind (wpAny_newTuple ?_ (by show vs.length ≤ _; exact hZ))
  refine wpAny_bind (wpAny_newList ?_ (Nat.zero_le _))
  refine wpAny_holding ?_
  refine keyS_rest (kz := kz) (fs := fs) (s₀ := s₀) (s := { s with heap := ((s.heap.update a (Obj.mapSeq fun _ => (#[] : Array Value))).push (seqObj "tuple" vs.toArray 0)).push (seqObj "list" #[] 0) })
    (kS := ((s.heap.update a (Obj.mapSeq fun _ => (#[] : Array Value))).push (seqObj "tuple" vs.toArray 0)).objs.size) ⟨?_, k0.2.1, k0.2.2⟩ (by rw [zS]; exact nS) ha0 (fun z => ?_) fa (Heap.get?_push_size _ rfl) (Heap.get?_push_of_some _ (Heap.get?_push_of_some _ o1))
    (by rw [zS]; exact Nat.ne_of_gt (Nat.lt_succ_of_lt la)) hlen hZ hu turn h
  · intro d o ed
    obtain ⟨q1, sl, q2⟩ := k0.1 d o ed
    have hd : d ≠ a := fun z => by rw [z, ha0] at ed; cases ed
    have up : ∀ o', s.heap.get? d = some o' → (((s.heap.update a (Obj.mapSeq fun _ => (#[] : Array Value))).push (seqObj "tuple" vs.toArray 0)).push (seqObj "list" #[] 0)).get? d = some o' := fun o' e' =>
      Heap.get?_push_of_some _ (Heap.get?_push_of_some _ ((Heap.get?_update_ne _ _ _ _ hd).trans e'))
    exact ⟨fun m => up _ (q1 m), sl, up _ q2⟩
  · have q := hfs _ z
    rw [zS] at q
    exact absurd q (Nat.not_lt.mpr (Nat.le_succ _))
theorem collect_tup {t : Addr} {Q : List Value → Shared → Prop} (ht : IsTup s.heap t vs.toArray) (h : Q vs { s with heap := (s.heap.push (seqObj "list" #[] 0)).update s.heap.objs.size (Obj.mapSeq (· ++ vs.toArray)) }) (hsz : vs.length ≤ sizeLine) :
    wpAny (model prog w) A (collect (.ref t)) Q E s := by
  obtain ⟨o, ho, hc, n, hd⟩ := id ht
  unfold collect
  refine wpAny_bind (wpAny_runValue (codeAny_builtin entry_proto_collect' ?_))
  show wpAny _ _ (do again (.builtin "list.__iadd__" ⟨[← newList [], .ref t], []⟩)) _ _ s
  refine wpAny_bind (wpAny_newList (wpAny_pure ⟨Code.quiet_builtin _ (by decide +kernel), codeAny_builtin entry_list_iadd' ?_⟩))
  show wpAny _ _ (Builtin.List.listExtendWith (.ref s.heap.objs.size) (.ref t) (.ref s.heap.objs.size)) _ _ { s with heap := s.heap.push (seqObj "list" #[] 0) }
  unfold Builtin.List.listExtendWith
  have o2 : (s.heap.push (seqObj "list" #[] 0)).get? t = some o := Heap.get?_push_of_some _ ho
  refine wpAny_bind (wpAny_typeOf (T := "tuple") ⟨o, o2, hc⟩ ?_)
  have hT : (Value.type "tuple" == Value.type "tuple") = true := by rfl
  rw [if_pos (by rw [hT]; simp)]
  refine wpAny_bind (listItems_at o2 hd ?_)
  refine wpAny_bind (listItems_at (xs := #[]) (n := 0) (Heap.get?_push_size _ rfl) rfl ?_)
  rw [if_neg (by simp)]
  refine wpAny_bind (listUpdate_at (xs := #[]) (n := 0) (Heap.get?_push_size _ rfl) rfl ?_ (Nat.zero_le _) (by show (#[] ++ vs.toArray).size ≤ sizeLine + 1; simp only [Array.size_append, List.size_toArray, List.length_nil]; omega))
  refine wpAny_pure ?_
  show wpAny (model prog w) A (do
      let x ← load s.heap.objs.size
      match x.data with
      | .seq xs _ => pure xs.toList
      | _ => unsupported "internal:collect") Q E { s with heap := (s.heap.push (seqObj "list" #[] 0)).update s.heap.objs.size (Obj.mapSeq (· ++ vs.toArray)) }
  refine wpAny_bind (wpAny_load (get?_update_seq (Heap.get?_push_size _ rfl) _) ?_)
  show wpAny _ _ (pure ((#[] : Array Value) ++ vs.toArray).toList) Q E _
  rw [show ((#[] : Array Value) ++ vs.toArray).toList = vs by simp]
  exact wpAny_pure h
theorem sortedT {t : Addr} {f : Value} {kw : List (Str × Value)} {Q : Value → Shared → Prop} (bare : AllBare s.gens) (hfs : ∀ d ∈ fs, d < s.heap.objs.size) (ht : IsTup s.heap t vs.toArray) (hlen : kz.length = vs.length) (hZ : vs.length ≤ sizeLine) (hu : A.units + 3 < cLine)
    (ha1 : argsOk "sorted" ⟨[.ref t], kw⟩) (ha2 : ∀ x, argsOk "list.sort" ⟨[.ref x], kw⟩) (hk : ∀ x, Builtin.«list.sort» ⟨[.ref x], kw⟩ = ksk_tree x f b)
    (turn : ∀ (i : Nat) (v : Value) (n : Int), vs[i]? = some v → kz[i]? = some n → ∀ s1 : Shared, SS fs s s1 → wpAny (model prog w) A.in1.in1 (call f [v]) (fun u s2 => (∃ t, u = .int n t) ∧ SS fs s1 s2) (fun _ _ => False) s1)
    (h : ∀ s2 out c, SS fs s s2 → s2.heap.get? (s.heap.objs.size + 1) = some (seqObj "list" (List.toArray out) c) → KeyedOut b (kz.map PyData.int) vs out → Q (.ref (s.heap.objs.size + 1)) s2) : wpAny (model prog w) A (call (.builtin "sorted") [.ref t] kw) Q E s := by
  refine call_function_entry_kw kind_sorted plain_sorted entry_sorted ha1 ?_
  unfold Builtin.«sorted»
  refine wpAny_bind (m := checkCount "sorted" 1 1 _) (wpAny_pure ?_)
  refine wpAny_bind (collect_tup ht ?_ hZ)
  refine wpAny_bind (wpAny_newList ?_ hZ)
  have z1 : ((s.heap.push (seqObj "list" #[] 0)).update s.heap.objs.size (Obj.mapSeq (· ++ vs.toArray))).objs.size = s.heap.objs.size + 1 := by rw [Heap.size_update, size_push']
  show wpAny _ _ _ _ _ { s with heap := copyHeap s.heap vs }
  rw [z1]
  refine wpAny_bind (wpAny_holding (wpAny_call_entry_kw slot_list_sort ⟨_, copyHeap_at s.heap vs, rfl⟩ entry_list_sort ?body (ha2 _)))
  case body =>
    show wpAny (model prog w) A.in1.in1 (Builtin.«list.sort» ⟨[.ref (s.heap.objs.size + 1)], kw⟩) _ _ _
    rw [hk]
    have fresh : s.heap.get? (s.heap.objs.size + 1) = none := Heap.get?_none_of_le (Nat.le_succ _)
    refine keyS_tree (kz := kz) (fs := fs) (s₀ := s) (s := { s with heap := copyHeap s.heap vs }) ⟨KS.of fun d o q => copyHeap_old q, rfl, bare⟩ fresh (fun d hd => ?_) (fun z => ?_) (copyHeap_at s.heap vs) hlen hZ (by show A.units + 1 + 1 + 1 < cLine; omega) turn fun s2 out c k3 n3 ko => ⟨_, rfl, ?_⟩
    · exact Nat.lt_trans (hfs d hd) (Nat.lt_trans (Nat.lt_succ_self _) (Heap.lt_size (copyHeap_at s.heap vs)))
    · exact absurd (hfs _ z) (Nat.not_lt.mpr (Nat.le_succ _))
    · exact wpAny_pure ⟨_, rfl, h s2 out c k3 n3 ko⟩
end
end Bf
namespace Bf
open PySem PySem.Spec PyProof.Rows L2 LamX NdefX
section
variable {X : Cx} {pins : List (Addr × Obj)} {σ : L2.St} {H : Hp} {s s1 : Shared}
/-- all is kept, the frames up to slots; a list is new at D, perhaps -/
theorem inv_SS {H' : Hp} (I : Inv X pins σ H s) (k : SS (frs X.stack) s s1) (h1 : ∀ b o, H b = some o → H' b = some o) (h2 : ∀ b, b < s.heap.objs.size → H b = none → H' b = none)
    (h3 : ∀ b o, H' b = some o → H b = some o ∨ ObjOk X.prog X.w H' s1.heap b o) : Inv X pins σ H' s1 := by
  obtain ⟨k1, k2, k3⟩ := k
  have un : Un (frs X.stack) [] H H' s.heap s1.heap := ⟨fun b o e n hb _ => (k1 b o e).1 hb, fun b o e n hb _ => (k1 b o e).2, fun b o e n _ => h2 b (Heap.lt_size e) n, fun b o e _ => let ⟨sl, q⟩ := (k1 b o e).2; ⟨_, q⟩, fun b _ e => h1 b _ e, fun b _ _ e => h1 b _ e, fun b ps e => ⟨#[], by rw [h1 b _ e]; simp⟩⟩
  have hok : HOk X.prog X.w H' s1.heap := fun a o e => by
    rcases h3 a o e with q | q
    · refine (I.hok a o q).stay (fun b u hb r => (k1 b u r).1 fun z => ?_) (fun b r => h1 b _ r) fun b xs r => h1 b _ r
      have n := I.stkFree b z
      rcases hb with hb | hb
      · rw [hb, q] at n; cases n
      · rw [hb] at n; cases n
    · exact q
  obtain ⟨hh, g, d, t, os'⟩ := s1
  obtain rfl : os' = s.os := k2
  exact I.call (h' := hh) (g' := g) (d' := d) (t' := t) (ch := []) un hok k3 (fun b z => absurd z (by simp))
theorem inv_SS0 (I : Inv X pins σ H s) (k : SS (frs X.stack) s s1) : Inv X pins σ H s1 := inv_SS I k (fun _ _ e => e) (fun _ _ n => n) fun _ _ e => .inl e
def Hn : Hp := fun _ => none
abbrev lamF (X : Cx) (params : Arguments) (scope : Scope) (c' : Addr) : NF := ⟨"<lambda>", X.env.qual ++ "<lambda>", params, [], scope, cloFrom X.env.cells scope.names [], c'⟩
theorem lam_call {params : Arguments} {body : Expr} {scope : Scope} {f c' : Addr} {pm ctv v : Value} {x : Str} {fr N : List Str} {js : List Nat} {k : Nat} {t : TE} {n m : Int} (I : Inv X pins σ H s)
    (hf : s.heap.get? f = some (PySem.W.kla_obj "<lambda>" (X.env.qual ++ "<lambda>") params body scope (cloFrom X.env.cells scope.names []) pm c' ctv)) (hfr : f ∉ frs X.stack) (hc : H c' = some (CodeO c' (X.env.qual ++ "<lambda>")))
    (S : NScope N [x] fr scope) (cp : X.Ok → Caps X (cloFrom X.env.cells scope.names []) fr js)
    (hbind : ∀ (q : Str) (cl : List (Str × Addr)) (pm cv ctv u : Value), bindArgs (PySem.W.kla_fn "<lambda>" q params body scope cl pm cv ctv) ⟨[u], []⟩ = pure [(x, u)]) (hr : Room (k + 3) X.A) (ks : SS (frs X.stack) s s1)
    (hbody : ∀ (A : Around) (outer : List Env) (z : Shared) (G : Hp), Room k (A.deeper (envF (lamF X params scope c') f z.heap.objs.size)) → PE (ncx CX0 X.prog X.w X.K X.mg X.base N (lamF X params scope c') f A outer z G E0) body t)
    (ht : ∀ Q : VK, Q (.int m) Hn → t (startF N [.int n] (js.map (slotAt σ))) Hn Q) (hv : ∃ t, v = .int n t) :
    wpAny (model X.prog X.w) X.A.in1.in1 (call (.ref f) [v]) (fun u s2 => (∃ t, u = .int m t) ∧ SS (frs X.stack) s1 s2) (fun _ _ => False) s1 := by
  have I1 := inv_SS0 I ks
  have of1 := (ks.1 f _ hf).1 hfr
  have en := I1.env0
  have e0 : Env0 X.prog X.w X.K X.mg X.base X.A.in1.in1 X.stack s1 Hn := ⟨en.frames, en.mod, fun b o q => ⟨(en.bs b o q).1, rfl⟩, en.bsz, en.funs, fun _ _ => rfl, (fun a o z => nomatch z), en.bare⟩
  have C0 := cells_of I1 (cp I1.ok)
  have C : CellsAt (cloFrom X.env.cells scope.names []) fr (js.map (slotAt σ)) s1.heap Hn := ⟨C0.len, fun y c e => ⟨rfl, (C0.all y c e).2⟩, C0.inj, C0.has⟩
  obtain ⟨⟨oc, vs, tt, hoc, hdc, hvc⟩, _, _⟩ := I1.hok c' _ hc
  have hr1 : Room (k + 1) X.A.in1.in1 := hr.in1.in1
  have rc : codeAny (model X.prog X.w) X.A.in1.in1 (.call (.ref f) ⟨[v], []⟩) (CR CX0 X.stack X.prog X.w Hn s1 (fun u _ => u = .int m) E0) s1 := by
    refine PySem.W.kla_callFunE hr1.depth of1 rfl S.co S.gen rfl ⟨c', oc, vs, tt, rfl, hoc, hdc, hvc⟩ ?_
    rw [hbind]
    refine wpAny_pure (wpAny_newFunctionEnv S.nocell (fun y hy => ?_) (fun h₁ hns hsb => ⟨I1.nolimit.fresh _ hsb, ?_⟩) S.kind)
    · have e : y = (x, v) := by simpa using hy
      rw [e]
      exact S.par x (by simp)
    · show codeAny _ _ (.expr body (envF (lamF X params scope c') f s1.heap.objs.size)) _ _
      have kp : ∀ b o, s1.heap.get? b = some o → h₁.get? b = some o := fun b o e => hsb.extBut b o (Nat.ne_of_lt (Heap.lt_size e)) (Heap.get?_push_of_some _ e)
      have J : Inv (ncx CX0 X.prog X.w X.K X.mg X.base N (lamF X params scope c') f X.A.in1.in1 X.stack s1 Hn E0) [] (startF N [.int n] (js.map (slotAt σ))) Hn { s1 with heap := h₁, toks := s1.toks + ([(x, v)] : List (Str × Value)).length } :=
        inv_startN (ps := [x]) (us := [v]) S hr1.hd e0 rfl (.cons hv .nil) C hns kp
      refine PySem.W.kla_codeExpr (wpAny_mono ((hbody _ _ s1 Hn (hr1.deeper _)).run [] _ _ Hn (fun u _ => u = .int m) J (ht (fun u _ => u = .int m) rfl)) (fun u z hq => ?_) fun e z hq => hq)
      obtain ⟨w', H', J', rv, q⟩ := hq
      exact ⟨w', H', J'.os, J'.bare, J'.base, J'.hok, rv, q⟩
  refine wpAny_call (codeAny_mono rc fun r z hq => ?_)
  match r, hq with
  | .error _, hq => exact hq.elim
  | .ok .next, hq => exact False.elim hq
  | .ok .brk, hq => exact False.elim hq
  | .ok .cont, hq => exact False.elim hq
  | .ok (.ret u), hq =>
    obtain ⟨u', H', e1, e2, un, _, rv, q⟩ := hq
    obtain rfl : u' = .int m := q
    exact ⟨rv, fun b o e => ⟨fun hb => un.keep b o e rfl hb (by simp), un.any e rfl (by simp)⟩, e1, e2⟩
/-! ### sorted(e, key=lambda x: ..) -/
def tSortLam (T : List (Addr × Str)) (K : PySem.W.Frag) (t : TE) (N : List Str) (js : List Nat) (te : TE) : TE := fun σ H Q => te σ H fun v H1 => ∃ (a : Addr) (ns : List Int) (g : Int → Int), [v] = [V.ref a] ∧ SqT K H1 a (ns.map V.int) ∧ Tabs T H1 ∧
  (∀ n ∈ ns, ∀ Q' : VK, Q' (.int (g n)) Hn → t (startF N [.int n] (js.map (slotAt σ))) Hn Q') ∧
  ∀ (H2 : Hp) (p : Addr) (ns' : List Int), ExtN H1 H2 → Tabs T H2 → H2 p = none → ns'.Perm ns → ns'.Pairwise (fun i j => g i ≤ g j) → Q (.ref p) (upd H2 p (.lst (ns'.map V.int)))
theorem ext_tup {K : PySem.W.Frag} {H1 H2 : Hp} {a : Addr} {xs : List V} (e : ExtN H1 H2) (h : SqT K H1 a xs) : SqT K H2 a xs := by
  rcases h with (h | ⟨o, h⟩) | h
  · exact .inl (.inl (e _ _ h (fun ps z => nomatch z)))
  · exact .inl (.inr ⟨o, e _ _ h (fun ps z => nomatch z)⟩)
  · exact .inr h
theorem each_ints : ∀ {us : List Value} {ns : List Int}, IntsAre us ns → PySem.W.EachIs (fun (v : Value) (n : Int) => ∃ t, v = .int n t) us ns
  | _, _, .nil => .nil
  | _, _, .cons n t r => .cons ⟨t, rfl⟩ (each_ints r)
theorem ints_eachV : ∀ {us : List Value} {ns : List Int}, PySem.W.EachIs (fun (v : Value) (n : Int) => ∃ t, v = .int n t) us ns → Vals (ns.map V.int) us
  | _, _, .nil => .nil
  | _, _, .cons r q => .cons r (ints_eachV q)
theorem int_le (g : Int → Int) : PySem.W.dataLe false (fun n => PyData.int (g n)) = fun i j => decide (g i ≤ g j) := by
  funext i j
  show (!PySem.W.dataLt (.int (g j)) (.int (g i))) = decide (g i ≤ g j)
  rw [PySem.W.dataLt_int]
  by_cases h : g i ≤ g j
  · rw [decide_eq_true h, decide_eq_false (by omega)]; rfl
  · rw [decide_eq_false h, decide_eq_true (by omega)]; rfl
theorem pe_sortLam {T : List (Addr × Str)} {c P : Addr} {e : Expr} {te t : TE} {params : Arguments} {body : Expr} {scope : Scope} {x : Str} {fr N : List Str} {js : List Nat} {k : Nat} {p pos lpos kpos : Pos} (ha : PA X [e] (tCons te tNil)) (hg : Gl X "sorted") (hm : X.mg "sorted" = none)
    (TB : TabB X.base X.mg c P) (hcode : X.env.code = .ref c) (hmT : (P, X.env.qual ++ "<lambda>") ∈ T) (hu : ∀ p ∈ T, p.1 = P → p.2 = X.env.qual ++ "<lambda>") (hdef : defaultsOf params X.env = ([], []))
    (S : NScope N [x] fr scope) (hfree : ∀ y ∈ scope.names, y.2 = .free → X.env.scope.names.lookup y.1 = some .cell ∨ X.env.scope.names.lookup y.1 = some .free) (cp : X.Ok → Caps X (cloFrom X.env.cells scope.names []) fr js)
    (hbind : ∀ (q : Str) (cl : List (Str × Addr)) (pm cv ctv u : Value), bindArgs (PySem.W.kla_fn "<lambda>" q params body scope cl pm cv ctv) ⟨[u], []⟩ = pure [(x, u)]) (hr : Room (k + 3) X.A)
    (hbody : ∀ (f c' : Addr) (A : Around) (outer : List Env) (z : Shared) (G : Hp), Room k (A.deeper (envF (lamF X params scope c') f z.heap.objs.size)) → PE (ncx CX0 X.prog X.w X.K X.mg X.base N (lamF X params scope c') f A outer z G E0) body t)
    (na : backTo pos (starEach [e] X.env) = (false, eval e X.env) :: backTo pos (starEach [] X.env) := by rfl) (hpl : (backTo pos (starEach [e] X.env)).any (·.1) = false := by rfl) :
    PE X (.Call (.Name "sorted" p) [e] [⟨some "key", .Lambda params body scope lpos, kpos⟩] pos) (tSortLam T X.K t N js te) := by
  refine ⟨fun pins s σ H Q I h => ?_⟩
  refine wpAny_Call_Name_kw (ld_blt I hg hm (show bootBuiltins "sorted" = some (.builtin "sorted") by decide +kernel) ?_ (by decide) (by decide))
  refine PyProof.Rows.callWith_kw (thn (ha.run pos pins s σ H (fun vs H1 => ∃ (a : Addr) (ns : List Int) (g : Int → Int), vs = [V.ref a] ∧ SqT X.K H1 a (ns.map V.int) ∧ Tabs T H1 ∧ (∀ n ∈ ns, ∀ Q' : VK, Q' (.int (g n)) Hn → t (startF N [.int n] (js.map (slotAt σ))) Hn Q') ∧
      ∀ (H2 : Hp) (p : Addr) (ns' : List Int), ExtN H1 H2 → Tabs T H2 → H2 p = none → ns'.Perm ns → ns'.Pairwise (fun i j => g i ≤ g j) → Q (.ref p) (upd H2 p (.lst (ns'.map V.int)))) I h) fun us s1 ⟨vs, H1, I1, r1, q1⟩ => ?_) na hpl (by rfl) (by rfl)
  obtain ⟨a, ns, g, ev, hT, tb, hk, q⟩ : ∃ (a : Addr) (ns : List Int) (g : Int → Int), vs = [.ref a] ∧ SqT X.K H1 a (ns.map V.int) ∧ Tabs T H1 ∧ (∀ n ∈ ns, ∀ Q' : VK, Q' (.int (g n)) Hn → t (startF N [.int n] (js.map (slotAt σ))) Hn Q') ∧
      ∀ (H2 : Hp) (p : Addr) (ns' : List Int), ExtN H1 H2 → Tabs T H2 → H2 p = none → ns'.Perm ns → ns'.Pairwise (fun i j => g i ≤ g j) → Q (.ref p) (upd H2 p (.lst (ns'.map V.int))) := q1
  subst ev
  rw [Vals.ref1 r1]
  show wpAny _ _ (evalAll ((do let v ← eval (.Lambda params body scope lpos) X.env; standAt pos; pure v) :: [])) _ _ s1
  refine wpAny_evalAll_cons (wpAny_bind (lam_make2 I1 TB hcode hmT hu tb hdef (fun y hy e => (hfree y hy e).elim (fun z => I1.ok.has _ (.inl z)) fun z => I1.ok.has _ (.inr z)) fun f c' pm ctv H2 s2 I2 eN T2 hf hfn hfr hco => wpAny_bind (wpAny_standAt (wpAny_pure (wpAny_evalAll_nil ?_)))))
  obtain ⟨its, rv, ht, hz⟩ := I2.tuple (ext_tup eN hT)
  have hI : IntsAre its ns := intsAre_of rv
  have hl : ns.length = its.length := by
    have := rv.length
    rw [List.length_map] at this
    exact this
  have hu0 := hr.un
  refine sortedT (fs := frs X.stack) (kz := ns.map g) (vs := its) (b := false) I2.bare (fun d hd => ?_) ht (by rw [List.length_map]; exact hl) (by rw [← rv.length]; exact hz) (by omega) (ksk_s1 _ _) (fun _ => ksk_l1 _ _) (fun y => ksk_t1 f y) (fun i v n hv hn s3 hs3 => ?_) (fun s3 out cc k3 n3 ko => ?_)
  · obtain ⟨_, o, ho, _⟩ := I2.stack.mem hd
    exact Heap.lt_size ho
  · rw [List.getElem?_map] at hn
    cases e : ns[i]? with
    | none => rw [e] at hn; cases hn
    | some m =>
      rw [e] at hn
      obtain rfl : g m = n := Option.some.inj hn
      have hvi : ∃ t, v = .int m t := by
        obtain ⟨u, hu1, hu2⟩ := Vals.get rv (show (ns.map V.int)[i]? = some (.int m) by rw [List.getElem?_map, e]; rfl)
        rw [hv] at hu1
        cases hu1
        exact hu2
      exact lam_call I2 hf hfr hco S cp hbind hr hs3 (fun A outer z G hrr => hbody f c' A outer z G hrr) (hk m (List.mem_of_getElem? e)) hvi
  · rw [List.map_map] at ko
    have eo := PySem.W.keyedOut_each (fun n => PyData.int (g n)) ko (each_ints hI)
    rw [int_le] at eo
    have vo := ints_eachV eo
    have nD : H2 (s2.heap.objs.size + 1) = none := I2.hok.fresh (Nat.le_succ _)
    have I3 : Inv X pins σ (upd H2 (s2.heap.objs.size + 1) (.lst ((ns.mergeSort fun i j => decide (g i ≤ g j)).map V.int))) s3 := by
      refine inv_SS I2 k3 (fun b o e => by rw [upd_ne (ne_of_none e nD)]; exact e) (fun b hb n => ?_) (fun b o e => ?_)
      · rw [upd_ne (Nat.ne_of_lt (Nat.lt_succ_of_lt hb))]
        exact n
      · by_cases eb : b = s2.heap.objs.size + 1
        · subst eb
          rw [upd_same] at e
          cases e
          refine .inr ⟨?_, out, cc, vo, n3⟩
          rw [List.length_map, (List.mergeSort_perm ns _).length_eq, hl, ← rv.length]
          exact hz
        · rw [upd_ne eb] at e
          exact .inl e
    refine ⟨.ref (s2.heap.objs.size + 1), _, I3, rfl, q H2 _ _ eN T2 nD (List.mergeSort_perm ns _) ?_⟩
    have := List.pairwise_mergeSort (le := fun i j => decide (g i ≤ g j)) (fun i j l h1 h2 => decide_eq_true (Int.le_trans (of_decide_eq_true h1) (of_decide_eq_true h2))) (fun i j => by
      rcases Int.le_total (g i) (g j) with h | h
      · simp [h]
      · simp [h]) ns
    exact this.imp fun h => of_decide_eq_true h
end
end Bf
namespace Bf
open PySem PySem.Spec PyProof.Rows L2
/-! ### bits of a number -/
def bl (n h : Nat) : List Nat := (List.range n).filter (fun k => h.testBit k)
theorem bl_succ (n h : Nat) : bl (n + 1) h = bl n h ++ (if h.testBit n = true then [n] else []) := by
  unfold bl
  rw [List.range_succ, List.filter_append]
  cases e : h.testBit n <;> simp [e]
theorem bl_ext {n h : Nat} (hh : h < 2 ^ n) : ∀ d, bl (n + d) h = bl n h
  | 0 => rfl
  | d + 1 => by
    have e : h.testBit (n + d) = false := Nat.testBit_lt_two_pow (Nat.lt_of_lt_of_le hh (Nat.pow_le_pow_right (by decide) (Nat.le_add_right n d)))
    rw [← Nat.add_assoc, bl_succ, bl_ext hh d, e]
    simp
theorem bl_eq {n m h : Nat} (hn : h < 2 ^ n) (hm : h < 2 ^ m) : bl n h = bl m h := by
  rcases Nat.le_total n m with l | l
  · obtain ⟨d, rfl⟩ := Nat.exists_eq_add_of_le l
    exact (bl_ext hn d).symm
  · obtain ⟨d, rfl⟩ := Nat.exists_eq_add_of_le l
    exact bl_ext hm d
theorem bl_len (n h : Nat) : (bl n h).length ≤ n := by
  have := List.length_filter_le (fun k => h.testBit k) (List.range n)
  rw [List.length_range] at this
  exact this
theorem bl_mem {n h i : Nat} (hn : h < 2 ^ n) : i ∈ bl n h ↔ h.testBit i = true := by
  unfold bl
  rw [List.mem_filter, List.mem_range]
  constructor
  · exact fun z => z.2
  · intro z
    refine ⟨Nat.lt_of_not_le fun l => ?_, z⟩
    rw [Nat.testBit_lt_two_pow (Nat.lt_of_lt_of_le hn (Nat.pow_le_pow_right (by decide) l))] at z
    cases z
theorem bl_lt {n h i : Nat} (hi : i ∈ bl n h) : i < n := List.mem_range.mp (List.mem_filter.mp hi).1
def fb (ks : List Nat) : Nat := ks.foldl (fun h k => h ||| 2 ^ k) 0
theorem fold_bit (i : Nat) : ∀ (ks : List Nat) (h : Nat), (ks.foldl (fun h k => h ||| 2 ^ k) h).testBit i = (h.testBit i || decide (i ∈ ks))
  | [], h => by simp
  | k :: ks, h => by
    rw [List.foldl_cons, fold_bit i ks, Nat.testBit_or, Nat.testBit_two_pow, Bool.or_assoc]
    congr 1
    by_cases e : i = k
    · subst e; simp
    · have e2 : ¬ k = i := fun z => e z.symm
      simp [e, e2]
theorem fb_eq {ks : List Nat} {h : Nat} (hm : ∀ i, i ∈ ks ↔ h.testBit i = true) : fb ks = h := by
  refine Nat.eq_of_testBit_eq fun i => ?_
  unfold fb
  rw [fold_bit, Nat.zero_testBit, Bool.false_or]
  cases e : h.testBit i with
  | true => exact decide_eq_true ((hm i).mpr e)
  | false => exact decide_eq_false fun z => by rw [(hm i).mp z] at e; cases e
theorem fb_take {ks : List Nat} {i k : Nat} (h : ks[i]? = some k) : fb (ks.take (i + 1)) = fb (ks.take i) ||| 2 ^ k := by
  unfold fb
  rw [List.take_add_one, h]
  simp [List.foldl_append]
theorem fb_lt {ks : List Nat} {n : Nat} (hk : ∀ k ∈ ks, k < n) : fb ks < 2 ^ n := by
  refine Nat.lt_pow_two_of_testBit _ fun i hi => ?_
  unfold fb
  rw [fold_bit, Nat.zero_testBit, Bool.false_or]
  exact decide_eq_false fun z => by have := hk i z; omega
theorem intBits_nat {h : Nat} : h < 2 ^ (Builtin.Int.intBits (h : Int)) := by
  unfold Builtin.Int.intBits
  by_cases e : h = 0
  · subst e
    decide
  · rw [if_neg (by simpa using e)]
    have := Nat.lt_log2_self (n := h)
    simpa using this
theorem intBits_le60 {h n : Nat} (hh : h < 2 ^ n) : Builtin.Int.intBits (h : Int) ≤ n := PyProof.Rows.intBits_le (by simpa using hh)
/-! ### numbers as data -/
def nv (ns : List Nat) : List V := ns.map fun (n : Nat) => V.int (n : Int)
def nd' (ns : List Nat) : List PyData := ns.map fun (n : Nat) => PyData.int (n : Int)
theorem nv_at {ns : List Nat} {i n : Nat} (h : ns[i]? = some n) : (nv ns)[i]? = some (.int (n : Int)) := by
  unfold nv
  rw [List.getElem?_map, h]
  rfl
theorem nv_len (ns : List Nat) : (nv ns).length = ns.length := List.length_map ..
theorem dp_nv {K : PySem.W.Frag} {H : Hp} : ∀ ns : List Nat, DpAll K H (nv ns) (nd' ns)
  | [] => .nil
  | n :: ns => .cons (.int _) (dp_nv ns)
theorem nd_show : ∀ ns : List Nat, (∀ n ∈ ns, n < 2 ^ 61) → PyData.showableAll (nd' ns) = true
  | [], _ => rfl
  | n :: ns, h => by
    have h1 : n < 2 ^ 61 := h n List.mem_cons_self
    have e : n.log2 < 1920 := by
      by_cases z : n = 0
      · subst z; decide
      · exact Nat.lt_of_lt_of_le ((Nat.log2_lt z).mpr h1) (by decide)
    show (decide ((n : Int).natAbs.log2 < 1920) && PyData.showableAll (nd' ns)) = true
    rw [nd_show ns fun m hm => h m (List.mem_cons_of_mem _ hm), Bool.and_true]
    exact decide_eq_true (by simpa using e)
theorem nd_dict : ∀ ns : List Nat, PyData.hasDictAll (nd' ns) = false
  | [] => rfl
  | n :: ns => nd_dict ns
theorem nd_depth : ∀ ns : List Nat, PyData.depthAll (nd' ns) ≤ 1
  | [] => by simp [nd', PyData.depthAll]
  | n :: ns => by
    have := nd_depth ns
    show max _ (PyData.depthAll (nd' ns)) ≤ 1
    simp only [PyData.depth]
    omega
theorem nd_leaves : ∀ ns : List Nat, (∀ n ∈ ns, n < 2 ^ 61) → PyData.leavesShortAll 64 (nd' ns) = true
  | [], _ => rfl
  | n :: ns, h => by
    have h1 : n < 2 ^ 61 := h n List.mem_cons_self
    show (decide ((PyData.shown (.int (n : Int))).length ≤ 64) && PyData.leavesShortAll 64 (nd' ns)) = true
    rw [nd_leaves ns fun m hm => h m (List.mem_cons_of_mem _ hm), Bool.and_true]
    have h2 : (n : Int) < 10 ^ 19 := by omega
    exact decide_eq_true (Nat.le_trans (toString_length_le (v := (n : Int)) (by omega) (k := 19) (by decide) h2) (by decide))
theorem nd_weight : ∀ ns : List Nat, (∀ n ∈ ns, n < 2 ^ 61) → PyData.weightAll (nd' ns) ≤ 63 * ns.length
  | [], _ => Nat.le_refl _
  | n :: ns, h => by
    have h1 : n < 2 ^ 61 := h n List.mem_cons_self
    have ih := nd_weight ns fun m hm => h m (List.mem_cons_of_mem _ hm)
    have e : PyData.weight (.int (n : Int)) ≤ 62 := by
      simp only [PyData.weight]
      by_cases z : n = 0
      · subst z; decide
      · have := (Nat.log2_lt z).mpr h1
        rw [if_neg (by simpa using z)]
        simp
        omega
    show PyData.weight (.int (n : Int)) + 1 + PyData.weightAll (nd' ns) ≤ 63 * (ns.length + 1)
    omega
theorem nd_len {ns : List Nat} (h : ∀ n ∈ ns, n < 2 ^ 61) (hl : ns.length ≤ 1000) : (PyData.tuple (nd' ns)).shown.length ≤ sizeLine := by
  have h1 := PyData.shown_le 64 (by decide) (.tuple (nd' ns)) (nd_leaves ns h)
  have h2 : PyData.weight (.tuple (nd' ns)) ≤ 63 * ns.length := nd_weight ns h
  rw [sizeLine_eq]
  have h3 : (64 + 2) * PyData.weight (.tuple (nd' ns)) ≤ 66 * (63 * 1000) := Nat.mul_le_mul (by decide) (by omega)
  omega
end Bf
namespace Bf
open PySem PySem.Spec PyProof.Rows L2
/-! ### round orders -/
def rb (q h j : Nat) : List Nat := ((List.range q).map fun i => (j + i) % q).filter fun k => h.testBit k
def ar (q j k : Nat) : Int := ((k : Int) - (j : Int)) % (q : Int)
theorem ar_at {q i : Nat} (j : Nat) (hi : i < q) : ar q j ((j + i) % q) = (i : Int) := by
  unfold ar
  rw [Int.natCast_emod, Int.emod_sub_emod, Int.natCast_add, show (j : Int) + i - j = i by omega]
  exact Int.emod_eq_of_lt (by omega) (by omega)
theorem at_of {q x : Nat} (j : Nat) (hx : x < q) : ∃ i, i < q ∧ (j + i) % q = x := by
  have hq : 0 < q := by omega
  refine ⟨(x + (q - j % q)) % q, Nat.mod_lt _ hq, ?_⟩
  have hj : j % q < q := Nat.mod_lt _ hq
  rw [Nat.add_mod, Nat.mod_mod, ← Nat.add_mod]
  have e : j + (x + (q - j % q)) = x + q * (j / q + 1) := by
    have := Nat.div_add_mod j q
    rw [Nat.mul_add, Nat.mul_one]
    omega
  rw [e, Nat.add_mul_mod_self_left]
  exact Nat.mod_eq_of_lt hx
theorem mem_rb {q h j x : Nat} : x ∈ rb q h j ↔ x < q ∧ h.testBit x = true := by
  unfold rb
  rw [List.mem_filter, List.mem_map]
  constructor
  · rintro ⟨⟨i, hi, rfl⟩, hb⟩
    have hi := List.mem_range.mp hi
    exact ⟨Nat.mod_lt _ (by omega), hb⟩
  · rintro ⟨hx, hb⟩
    obtain ⟨i, hi, e⟩ := at_of j hx
    exact ⟨⟨i, List.mem_range.mpr hi, e⟩, hb⟩
theorem rb_len (q h j : Nat) : (rb q h j).length ≤ q := by
  have h1 := List.length_filter_le (fun k => h.testBit k) ((List.range q).map fun i => (j + i) % q)
  rw [List.length_map, List.length_range] at h1
  exact h1
theorem rb_sorted (q h j : Nat) : (rb q h j).Pairwise (fun a b => ar q j a < ar q j b) := by
  unfold rb
  refine List.Pairwise.filter _ ?_
  rw [List.pairwise_map]
  refine (List.pairwise_lt_range).imp_of_mem fun {a b} ha hb hab => ?_
  rw [ar_at j (List.mem_range.mp ha), ar_at j (List.mem_range.mp hb)]
  omega
theorem ar_inj {q j a b : Nat} (ha : a < q) (hb : b < q) (h : ar q j a = ar q j b) : a = b := by
  obtain ⟨i, hi, rfl⟩ := at_of j ha
  obtain ⟨k, hk, rfl⟩ := at_of j hb
  rw [ar_at j hi, ar_at j hk] at h
  have : i = k := by omega
  rw [this]
theorem uniq_sorted {α : Type} {key : α → Int} : ∀ {l m : List α}, l.Pairwise (fun a b => key a < key b) → m.Pairwise (fun a b => key a < key b) → (∀ x, x ∈ l ↔ x ∈ m) → l = m
  | [], [], _, _, _ => rfl
  | [], b :: m, _, _, h => absurd ((h b).mpr List.mem_cons_self) List.not_mem_nil
  | a :: l, [], _, _, h => absurd ((h a).mp List.mem_cons_self) List.not_mem_nil
  | a :: l, b :: m, hl, hm, h => by
    obtain ⟨l1, l2⟩ := List.pairwise_cons.mp hl
    obtain ⟨m1, m2⟩ := List.pairwise_cons.mp hm
    have e : a = b := by
      rcases List.mem_cons.mp ((h a).mp List.mem_cons_self) with e | ea
      · exact e
      · rcases List.mem_cons.mp ((h b).mpr List.mem_cons_self) with e | eb
        · exact e.symm
        · have x1 := m1 a ea
          have x2 := l1 b eb
          omega
    subst e
    congr 1
    refine uniq_sorted l2 m2 fun x => ⟨fun hx => ?_, fun hx => ?_⟩
    · rcases List.mem_cons.mp ((h x).mp (List.mem_cons_of_mem _ hx)) with e | e
      · subst e
        exact absurd (l1 x hx) (Int.lt_irrefl _)
      · exact e
    · rcases List.mem_cons.mp ((h x).mpr (List.mem_cons_of_mem _ hx)) with e | e
      · subst e
        exact absurd (m1 x hx) (Int.lt_irrefl _)
      · exact e
theorem bl_nodup (n h : Nat) : (bl n h).Nodup := List.Pairwise.filter _ List.nodup_range
theorem rb_eq {q h j : Nat} {rs : List Nat} (hq : q ≤ 60) (hh : h < 2 ^ q) (hp : rs.Perm (bl 60 h)) (hs : rs.Pairwise fun a b => ar q j a ≤ ar q j b) : rs = rb q h j := by
  have h60 : h < 2 ^ 60 := Nat.lt_of_lt_of_le hh (Nat.pow_le_pow_right (by decide) hq)
  have hlt : ∀ x ∈ rs, x < q := fun x hx => by
    have hx2 := (bl_mem h60).mp (hp.mem_iff.mp hx)
    exact Nat.lt_of_not_le fun l => by
      rw [Nat.testBit_lt_two_pow (Nat.lt_of_lt_of_le hh (Nat.pow_le_pow_right (by decide) l))] at hx2
      cases hx2
  have nd : rs.Nodup := hp.nodup_iff.mpr (bl_nodup 60 h)
  have st : rs.Pairwise fun a b => ar q j a < ar q j b := by
    have := List.Pairwise.and hs nd
    refine this.imp_of_mem fun {a b} ha hb hab => ?_
    have hne : ar q j a ≠ ar q j b := fun e => hab.2 (ar_inj (hlt a ha) (hlt b hb) e)
    have := hab.1
    omega
  refine uniq_sorted st (rb_sorted q h j) fun x => ?_
  rw [hp.mem_iff, bl_mem h60, mem_rb]
  constructor
  · exact fun hb => ⟨hlt x (hp.mem_iff.mpr ((bl_mem h60).mpr hb)), hb⟩
  · exact fun z => z.2
theorem rb_mod {q h j : Nat} : rb q h (j % q) = rb q h j := by
  unfold rb
  congr 1
  refine List.map_congr_left fun i _ => ?_
  rw [Nat.add_mod, Nat.mod_mod, ← Nat.add_mod]
theorem rb_mods {q h j k : Nat} (e : j % q = k % q) : rb q h j = rb q h k := by
  rw [← rb_mod (j := j), e, rb_mod]
/-- a ring turned -/
def tw (q by' : Nat) (ks : List Nat) : List Nat := ks.map fun s => (s + by') % q
theorem turn_inj {q a b by' : Nat} (ha : a < q) (hb : b < q) (h : (a + by') % q = (b + by') % q) : a = b := by
  have h1 : ar q by' ((by' + a) % q) = a := ar_at by' ha
  have h2 : ar q by' ((by' + b) % q) = b := ar_at by' hb
  rw [Nat.add_comm by' a, h, Nat.add_comm b by', h2] at h1
  omega
theorem twin_bit {q one by' x : Nat} (hq : q ≤ 60) (hh : one < 2 ^ q) (hx : x < q) : (fb (tw q by' (bl 60 one))).testBit ((x + by') % q) = one.testBit x := by
  have h60 : one < 2 ^ 60 := Nat.lt_of_lt_of_le hh (Nat.pow_le_pow_right (by decide) hq)
  unfold fb
  rw [fold_bit, Nat.zero_testBit, Bool.false_or]
  cases e : one.testBit x with
  | true => exact decide_eq_true (List.mem_map.mpr ⟨x, (bl_mem h60).mpr e, rfl⟩)
  | false =>
    refine decide_eq_false fun z => ?_
    obtain ⟨y, hy, ey⟩ := List.mem_map.mp z
    have hy2 := (bl_mem h60).mp hy
    have hyq : y < q := Nat.lt_of_not_le fun l => by
      rw [Nat.testBit_lt_two_pow (Nat.lt_of_lt_of_le hh (Nat.pow_le_pow_right (by decide) l))] at hy2
      cases hy2
    rw [turn_inj hyq hx ey, e] at hy2
    cases hy2
theorem twin_lt {q one by' : Nat} (hq : 0 < q) : fb (tw q by' (bl 60 one)) < 2 ^ q := fb_lt fun k hk => by
  obtain ⟨y, _, rfl⟩ := List.mem_map.mp hk
  exact Nat.mod_lt _ hq
theorem rb_turn {q one by' s : Nat} (hq0 : 0 < q) (hq : q ≤ 60) (hh : one < 2 ^ q) : rb q (fb (tw q by' (bl 60 one))) (s + by') = tw q by' (rb q one s) := by
  unfold rb tw
  have e : (List.range q).map (fun i => (s + by' + i) % q) = ((List.range q).map fun i => (s + i) % q).map fun k => (k + by') % q := by
    rw [List.map_map]
    refine List.map_congr_left fun i _ => ?_
    show (s + by' + i) % q = ((s + i) % q + by') % q
    rw [Nat.mod_add_mod]
    congr 1
    omega
  rw [e, List.filter_map]
  congr 1
  refine List.filter_congr fun x hx => ?_
  obtain ⟨i, _, rfl⟩ := List.mem_map.mp hx
  exact twin_bit hq hh (Nat.mod_lt _ hq0)
end Bf
namespace Bf
open PySem PySem.Spec PyProof.Rows L2
/-! ### heaps -/
def Keeps (a : Addr) (H H' : Hp) : Prop := ∀ b o, b ≠ a → H b = some o → H' b = some o
theorem Keeps.refl (a : Addr) (H : Hp) : Keeps a H H := fun _ _ _ h => h
theorem Keeps.trans {a : Addr} {H H1 H2 : Hp} (x : Keeps a H H1) (y : Keeps a H1 H2) : Keeps a H H2 := fun b o n h => y b o n (x b o n h)
theorem Keeps.new {a p : Addr} {H H1 : Hp} {o : HO} (x : Keeps a H H1) (h : H1 p = none) : Keeps a H (upd H1 p o) := fun b u n e => by
  have e1 := x b u n e
  rw [upd_ne (ne_of_none e1 h)]
  exact e1
theorem Keeps.at {a : Addr} {H H1 : Hp} {o : HO} (x : Keeps a H H1) : Keeps a H (upd H1 a o) := fun b u n e => by
  rw [upd_ne n]
  exact x b u n e
theorem Keeps.of_same {a : Addr} {H H1 : Hp} (x : Same H H1) : Keeps a H H1 := fun b u _ e => x b u e
theorem same_new {H H1 : Hp} {p : Addr} {o : HO} (x : Same H H1) (h : H1 p = none) : Same H (upd H1 p o) := fun b u e => by
  have e1 := x b u e
  rw [upd_ne (ne_of_none e1 h)]
  exact e1
/-- an expression that gives v, the heap as it was -/
def Gives (t : TE) (σ : L2.St) (H : Hp) (v : V) : Prop := ∀ Q : VK, Q v H → t σ H Q
theorem rd_ifI {tt : TT} {ta tb : TE} {σ : L2.St} {H : Hp} {Q : VK} (b : Bool) (P : Int → Prop) (h0 : ∀ Q' : Bool → Hp → Prop, Q' b H → tt σ H Q') (h1 : b = true → ∃ c : Int, P c ∧ Gives ta σ H (.int c)) (h2 : b = false → ∃ c : Int, P c ∧ Gives tb σ H (.int c))
    (h : ∀ c : Int, P c → Q (.int c) H) : tIf tt ta tb σ H Q := by
  refine h0 _ ?_
  cases b with
  | true => obtain ⟨c, hp, hc⟩ := h1 rfl; exact iteT (hc _ (h c hp))
  | false => obtain ⟨c, hp, hc⟩ := h2 rfl; exact iteF (hc _ (h c hp))
/-- the pot: three numbers at a; n counts what was drawn -/
def Pot (H : Hp) (a : Addr) (n : Nat) : Prop := ∃ x y z : Int, H a = some (.lst [.int x, .int y, .int z]) ∧ 0 ≤ x ∧ 0 ≤ y ∧ y < 2305843009213693952 ∧ 0 ≤ z ∧ z ≤ n
theorem Pot.up {H : Hp} {a : Addr} {n m : Nat} (h : Pot H a n) (l : n ≤ m) : Pot H a m := let ⟨x, y, z, h1, h2, h3, h4, h5, h6⟩ := h; ⟨x, y, z, h1, h2, h3, h4, h5, by omega⟩
theorem Pot.new {H : Hp} {a p : Addr} {n : Nat} {o : HO} (h : Pot H a n) (hp : H p = none) : Pot (upd H p o) a n := let ⟨x, y, z, h1, h2⟩ := h; ⟨x, y, z, by rw [upd_ne (ne_of_none h1 hp)]; exact h1, h2⟩
theorem Pot.same {H H' : Hp} {a : Addr} {n : Nat} (h : Pot H a n) (s : Same H H') : Pot H' a n := let ⟨x, y, z, h1, h2⟩ := h; ⟨x, y, z, s _ _ h1, h2⟩

theorem primes4 (n : Int) (h0 : 0 ≤ n) (h : n < 4) : ∃ v : Int, atI [V.int 2305843009213693951, .int 999999999989, .int 1000000000039, .int 67280421310721] n = some (.int v) ∧ 0 < v := by
  obtain ⟨m, rfl⟩ := Int.eq_ofNat_of_zero_le h0
  match m, h with
  | 0, _ => exact ⟨_, rfl, by decide⟩
  | 1, _ => exact ⟨_, rfl, by decide⟩
  | 2, _ => exact ⟨_, rfl, by decide⟩
  | 3, _ => exact ⟨_, rfl, by decide⟩
theorem nat_of {i : Int} {n : Nat} (h0 : 0 ≤ i) (h : i < n) : ∃ r : Nat, i = (r : Int) ∧ r < n := ⟨i.toNat, by omega, by omega⟩
/-! ### numbers that are not negative -/
theorem op_orN {X : Cx} : OpR X (binaryOp .BitOr) (fun x y H Q => ∃ n m : Nat, x = .int (n : Int) ∧ y = .int (m : Int) ∧ Q (.int ((n ||| m : Nat) : Int)) H) := by
  intro pins s σ H x y v u Q I rx ry h
  obtain ⟨n, m, rfl, rfl, q⟩ := h
  refine op_or pins s σ H _ _ v u Q I rx ry ⟨(n : Int), (m : Int), rfl, rfl, ?_⟩
  show Q (.int (Builtin.bitOr (n : Int) (m : Int))) H
  rw [bitOr_nn (Int.natCast_nonneg n) (Int.natCast_nonneg m)]
  exact q
theorem op_bit {X : Cx} : OpR X (binaryOp .LShift) (fun x y H Q => ∃ k : Nat, x = .int 1 ∧ y = .int (k : Int) ∧ k ≤ 134217727 ∧ Q (.int ((2 ^ k : Nat) : Int)) H) := by
  intro pins s σ H x y v u Q I rx ry h
  obtain ⟨k, rfl, rfl, hk, q⟩ := h
  refine op_oneShl pins s σ H _ _ v u Q I rx ry ⟨k, rfl, rfl, hk, ?_⟩
  rw [Int.natCast_pow] at q
  exact q
theorem op_shrNN {X : Cx} : OpR X (binaryOp .RShift) (fun x y H Q => ∃ n m : Nat, x = .int (n : Int) ∧ y = .int (m : Int) ∧ Q (.int ((n / 2 ^ m : Nat) : Int)) H) := by
  intro pins s σ H x y v u Q I rx ry h
  obtain ⟨n, m, rfl, rfl, q⟩ := h
  refine op_shrN pins s σ H _ _ v u Q I rx ry ⟨(n : Int), m, rfl, rfl, ?_⟩
  rw [Int.natCast_ediv, Int.natCast_pow] at q
  exact q
theorem iop_orN {X : Cx} : OpR X (inplaceOp .BitOr) (fun x y H Q => ∃ n m : Nat, x = .int (n : Int) ∧ y = .int (m : Int) ∧ Q (.int ((n ||| m : Nat) : Int)) H) := by
  intro pins s σ H x y v u Q I rx ry h
  obtain ⟨n, m, rfl, rfl, q⟩ := h
  refine iop_or pins s σ H _ _ v u Q I rx ry ⟨(n : Int), (m : Int), rfl, rfl, ?_⟩
  show Q (.int (Builtin.bitOr (n : Int) (m : Int))) H
  rw [bitOr_nn (Int.natCast_nonneg n) (Int.natCast_nonneg m)]
  exact q
section
variable {K : PySem.W.Frag} {f : Addr} {fd : FuncData}
/-! ### tuples that expressions give -/
theorem sameT {H H' : Hp} {a : Addr} {xs : List V} (e : Same H H') (h : SqT K H a xs) : SqT K H' a xs := by
  rcases h with (h | ⟨o, h⟩) | h
  · exact .inl (.inl (e _ _ h))
  · exact .inl (.inr ⟨o, e _ _ h⟩)
  · exact .inr h
def GT (K : PySem.W.Frag) (t : TE) (σ : L2.St) (H : Hp) (vs : List V) : Prop := ∀ H1, Same H H1 → ∀ Q : VK, (∀ H2 x, Same H1 H2 → SqT K H2 x vs → Q (.ref x) H2) → t σ H1 Q
theorem gt_var {i : Nat} {σ : L2.St} {H : Hp} {b : Addr} {vs : List V} (h : SqT K H b vs) (hi : σ[i]? = some (some (.ref b))) : GT K (tVar i) σ H vs := fun H1 s Q q => ⟨_, hi, q H1 b (Same.refl _) (sameT s h)⟩
theorem gt_rev {te : TE} {σ : L2.St} {H : Hp} {vs : List V} (h : GT K te σ H vs) : GT K (tRevT K te) σ H vs.reverse := fun H1 s Q q => h H1 s _ fun H2 x s2 hx =>
  ⟨x, vs, rfl, hx, fun p np => q _ p (same_new s2 np) (.inl (.inl upd_same))⟩
theorem gt_tup {te : TE} {σ : L2.St} {H : Hp} {i : Nat} {b : Addr} {vs : List V} (h : SqL K H b vs) (hi : σ[i]? = some (some (.ref b))) :
    GT K (tCB (fun xs H Q => ∃ p ys, xs = [.ref p] ∧ ((SqL K H p ys ∧ ∀ l, H l = none → Q (.ref l) (upd H l (.tup ys))) ∨ (SqT K H p ys ∧ Q (.ref p) H))) (tCons (tVar i) tNil)) σ H vs := fun H1 s Q q =>
  ⟨_, hi, b, vs, rfl, .inl ⟨s.seq h, fun p np => q _ p (same_new (Same.refl _) np) (.inl (.inl upd_same))⟩⟩
theorem gt_cut {te : TE} {σ : L2.St} {H : Hp} {vs : List V} {n : Nat} (h : GT K te σ H vs) : GT K (tSl (rSlA K) te tNoPart (tPart (tC (.int (n : Int))))) σ H (vs.take n) := fun H1 s Q q => h H1 s _ fun H2 x s2 hx => by
  refine ⟨_, rfl, x, vs, rfl, hx, fun w => ?_, fun w p np => ?_⟩
  · have e : vs.take n = vs := List.take_of_length_le (by
      have := w.2
      rw [HT.sIx_nat] at this
      omega)
    exact q H2 x s2 (by rw [e]; exact hx)
  · have e : cutV vs none (some (n : Int)) = vs.take n := by
      unfold cutV
      rw [HT.sIx_none, HT.sIx_nat, List.drop_zero, Nat.sub_zero]
      rcases Nat.le_total n vs.length with l | l
      · rw [Nat.min_eq_left l]
      · rw [Nat.min_eq_right l, List.take_of_length_le l, List.take_length]
    rw [e]
    exact q _ p (same_new s2 np) (.inl (.inl upd_same))
theorem gt_cat {ta tb : TE} {σ : L2.St} {H : Hp} {xs ys : List V} (ha : GT K ta σ H xs) (hb : GT K tb σ H ys) (hz : xs.length + ys.length ≤ sizeLine) : GT K (tOp (rCatA K) ta tb) σ H (xs ++ ys) := fun H1 s Q q => ha H1 s _ fun H2 x s2 hx =>
  hb H2 (s.trans s2) _ fun H3 y s3 hy => by
    refine ⟨x, y, xs, ys, rfl, rfl, sameT s3 hx, hy, hz, fun e => ?_, fun _ e => ?_, fun _ _ p np => ?_⟩
    · exact q H3 y (s2.trans s3) (by rw [e]; exact hy)
    · exact q H3 x (s2.trans s3) (by rw [e, List.append_nil]; exact sameT s3 hx)
    · exact q _ p (same_new (s2.trans s3) np) (.inl (.inl upd_same))
theorem gt_rep {ta : TE} {σ : L2.St} {H : Hp} {xs : List V} {n : Nat} (ha : GT K ta σ H xs) (h2 : 2 ≤ n) (h1 : n ≤ 1000) (hz : xs.length ≤ 1000) : GT K (tOp (rRepA K) ta (tC (.int (n : Int)))) σ H (List.replicate n xs).flatten := fun H1 s Q q => ha H1 s _ fun H2 x s2 hx => by
  refine ⟨x, n, xs, rfl, rfl, hx, by omega, by omega, hz, fun e => ?_, fun _ p np => ?_⟩
  · have e2 : (List.replicate n xs).flatten = xs := by
      subst e
      simp
    exact q H2 x s2 (by rw [e2]; exact hx)
  · exact q _ p (same_new s2 np) (.inl (.inl upd_same))
theorem nv_rev (ks : List Nat) : (nv ks).reverse = nv ks.reverse := by unfold nv; rw [List.map_reverse]
theorem nv_take (ks : List Nat) (n : Nat) : (nv ks).take n = nv (ks.take n) := by unfold nv; rw [List.map_take]
theorem nv_app (ks js : List Nat) : nv ks ++ nv js = nv (ks ++ js) := by unfold nv; rw [List.map_append]
theorem nv_rep (ks : List Nat) (n : Nat) : (List.replicate n (nv ks)).flatten = nv (List.replicate n ks).flatten := by unfold nv; rw [List.map_flatten, List.map_replicate]
theorem mem_rep {ks : List Nat} {n x : Nat} : x ∈ (List.replicate (n + 1) ks).flatten ↔ x ∈ ks := by
  constructor
  · intro h
    obtain ⟨l, hl, hx⟩ := List.mem_flatten.mp h
    rw [List.eq_of_mem_replicate hl] at hx
    exact hx
  · exact fun h => List.mem_flatten.mpr ⟨ks, List.mem_replicate.mpr ⟨by omega, rfl⟩, h⟩
theorem same_keeps {H H0 H' : Hp} {p : Addr} (hp : H p = none) (s : Same H H0) (k : Keeps p H0 H') : Same H H' := fun b o e => k b o (ne_of_none e hp) (s b o e)
theorem dp_tup {H : Hp} {a : Addr} {ns : List Nat} (h : SqT K H a (nv ns)) : Dp K H (.ref a) (.tuple (nd' ns)) := .tup h (dp_nv ns)
theorem nd_canAll : ∀ ns : List Nat, PyData.canLayAll0 (nd' ns) = true
  | [] => rfl
  | n :: ns => nd_canAll ns
theorem nd_can (ns : List Nat) : PyData.canLay0 (.tuple (nd' ns)) = true := nd_canAll ns
theorem nd_dep (ns : List Nat) : PyData.depth (.tuple (nd' ns)) ≤ 2 := by
  have := nd_depth ns
  show PyData.depthAll (nd' ns) + 1 ≤ 2
  omega
theorem nd_shaped (ns : List Nat) : SeqAt.shaped (.tuple (nd' ns)) = true := by
  unfold SeqAt.shaped
  rw [nd_can, Bool.true_and]
  exact decide_eq_true (Nat.le_trans (nd_dep ns) (by decide))
theorem bl_small {n h i : Nat} (hn : n ≤ 60) (hi : i ∈ bl n h) : i < 2 ^ 61 := Nat.lt_trans (Nat.lt_of_lt_of_le (bl_lt hi) hn) (by decide)
theorem log_small {n : Nat} (h : n < 2 ^ 61) : (n : Int).natAbs.log2 < 1920 := by
  by_cases z : n = 0
  · subst z; decide
  · have := (Nat.log2_lt z).mpr h
    simpa using (Nat.lt_of_lt_of_le this (by decide) : n.log2 < 1920)
theorem kb1 {x n : Str} {st : Stmt} (F : Fun K x x st f fd) (h1 : ∀ (kV doc pm : Value) (an : Option Addr) (cdv ct u : Value), bindArgs (PySem.W.fnOf x x (defArgs st) (defBody st) (defScope st) .none kV doc pm an cdv ct) ⟨[], [(n, u)]⟩ = pure [(n, u)])
    (h2 : ∀ (kV doc pm : Value) (an : Option Addr) (cdv ct u : Value), bindArgs (PySem.W.fnOf x x (defArgs st) (defBody st) (defScope st) .none kV doc pm an cdv ct) ⟨[u], []⟩ = pure [(n, u)]) : KBinds K fd [n] [n] (fun us ws => us ++ ws) (fun vs zs => vs ++ zs) := by
  obtain ⟨oc, od, kV, doc, pm, an, cdv, ct, osl, rfl, lk, hcd⟩ := F.ex
  refine ⟨fun s us ws _ hl => ?_, fun r1 r2 => r1.append r2⟩
  match us, ws, hl with
  | [], [u], _ => exact .of_eq (h1 kV doc pm an cdv ct u)
  | [u], [], _ => exact .of_eq (h2 kV doc pm an cdv ct u)
  | [], [], hl => cases hl
  | [], _ :: _ :: _, hl => exact absurd (Nat.succ.inj hl) (by simp)
  | [_], _ :: _, hl => exact absurd (Nat.succ.inj hl) (by simp)
  | _ :: _ :: _, _, hl => exact absurd (Nat.succ.inj hl) (by simp)
end
/-- where a def of the top stands -/
structure DefAt (K : PySem.W.Frag) (x : Str) (st : Stmt) (f : Addr) : Prop where
  at_ : PySem.W.nsIn K mainGlobals x = some (some (.ref f))
  fn : ∃ fd, Fun K x x st f fd
theorem mkD {K : PySem.W.Frag} {x : Str} {st : Stmt} {f : Addr} {oc kV doc pm cdv ct : Value} {od an : Option Addr} {osl : Array (Option Value)} (a : PySem.W.nsIn K mainGlobals x = some (some (.ref f)))
    (l : K.lookup f = some ⟨oc, od, .func (PySem.W.fnOf x x (defArgs st) (defBody st) (defScope st) .none kV doc pm an cdv ct), osl⟩) (c : PySem.W.codeIn K cdv x = true) (k : PySem.W.keepIn K (.ref f) = true) : DefAt K x st f := ⟨a, _, fun_mk (st := st) l c k⟩

/-! ### tables and pots -/
open LamX NdefX
def KT (a : Addr) (H H' : Hp) : Prop := ∀ b o, b ≠ a → H b = some o → (∀ ps, o ≠ .tbl ps) → H' b = some o
theorem KT.refl (a : Addr) (H : Hp) : KT a H H := fun _ _ _ h _ => h
theorem KT.trans {a : Addr} {H H1 H2 : Hp} (x : KT a H H1) (y : KT a H1 H2) : KT a H H2 := fun b o n h t => y b o n (x b o n h t) t
theorem KT.k {a : Addr} {H H1 : Hp} (x : Keeps a H H1) : KT a H H1 := fun b o n h _ => x b o n h
theorem KT.e {a : Addr} {H H1 : Hp} (x : ExtN H H1) : KT a H H1 := fun b o _ h t => x b o h t
theorem ExtN.s {H H1 : Hp} (x : Same H H1) : ExtN H H1 := ExtN.of x
theorem Pot.ext {H H' : Hp} {a : Addr} {n : Nat} (h : Pot H a n) (s : ExtN H H') : Pot H' a n := let ⟨x, y, z, h1, h2⟩ := h; ⟨x, y, z, s _ _ h1 (fun ps z => nomatch z), h2⟩
theorem tabs_keeps {T : List (Addr × Str)} {H H' : Hp} {a : Addr} {m : Nat} (p : Pot H a m) (t : Tabs T H) (k : Keeps a H H') : Tabs T H' := fun q hq => by
  obtain ⟨x, y, z, hH, _⟩ := p
  obtain ⟨ps, h1, h2, h3⟩ := t q hq
  refine ⟨ps, k _ _ (fun e => ?_) h1, h2, fun pos cv hc => ?_⟩
  · rw [e, hH] at h1
    cases h1
  · obtain ⟨c, e1, e2⟩ := h3 pos cv hc
    refine ⟨c, e1, k _ _ (fun e => ?_) e2⟩
    rw [e, hH] at e2
    unfold CodeO at e2
    cases e2
theorem ext_new {H H1 : Hp} {p : Addr} {o : HO} (x : ExtN H H1) (h : H1 p = none) : ExtN H (upd H1 p o) := fun b u e t => by
  have e1 := x b u e t
  rw [upd_ne (ne_of_none e1 h)]
  exact e1
theorem tabs_new {T : List (Addr × Str)} {H : Hp} {p : Addr} {o : HO} (t : Tabs T H) (h : H p = none) : Tabs T (upd H p o) := t.ext fun b u e => by
  rw [upd_ne (ne_of_none e h)]
  exact e
theorem extT {K : PySem.W.Frag} {H H' : Hp} {a : Addr} {xs : List V} (e : ExtN H H') (h : SqT K H a xs) : SqT K H' a xs := ext_tup e h
theorem extL {K : PySem.W.Frag} {H H' : Hp} {a : Addr} {xs : List V} (e : ExtN H H') (h : SqL K H a xs) : SqL K H' a xs := by
  rcases h with (h | ⟨o, h⟩) | h
  · exact .inl (.inl (e _ _ h (fun ps z => nomatch z)))
  · exact .inl (.inr ⟨o, e _ _ h (fun ps z => nomatch z)⟩)
  · exact .inr h
theorem ext_kt {H H0 H' : Hp} {p : Addr} (hp : H p = none) (s : ExtN H H0) (k : KT p H0 H') : ExtN H H' := fun b o e t => k b o (ne_of_none e hp) (s b o e t) t
/-- a def whose body makes a lambda: its code object is at c -/
structure FunT (K : PySem.W.Frag) (x : Str) (st : Stmt) (f : Addr) (fd : FuncData) (c : Addr) : Prop where
  ex : ∃ (oc : Value) (od : Option Addr) (kV doc pm : Value) (an : Option Addr) (ct : Value) (osl : Array (Option Value)),
    fd = PySem.W.fnOf x x (defArgs st) (defBody st) (defScope st) .none kV doc pm an (.ref c) ct ∧ K.lookup f = some ⟨oc, od, .func fd, osl⟩ ∧ PySem.W.codeIn K (.ref c) x = true
  kp : PySem.W.keepIn K (.ref f) = true
theorem FunT.ok {P : Program} {w : World} {K : PySem.W.Frag} {mg : Str → Option Value} {base : Heap} {x : Str} {st : Stmt} {f c : Addr} {fd : FuncData} {N ps : List Str} {k : Nat} {sp : Sp} (F : FunT K x st f fd c) (S : FnScope N ps (defScope st)) (len : ∀ vs H Q E, sp vs H Q E → vs.length = ps.length)
    (hbody : ∀ (A : Around) (outer : List Env) (s : Shared) (H : Hp) (vs : List V) (Q : VK) (E : XK), Room k (A.deeper (envOfC x (defScope st) s.heap.objs.size f (.ref c))) → sp vs H Q E →
      ∃ t, PSs (cxOf CX0 P w K mg base N x (defScope st) f (.ref c) A outer s H E).nox (defBody st) t ∧ t { nx := fun _ H' => Q .non H', rt := Q } (start N vs) H) : FnOk P w K mg base CX0 (k + 1) f fd ps sp := by
  obtain ⟨oc, od, kV, doc, pm, an, ct, osl, rfl, lk, hcd⟩ := F.ex
  refine fn_of lk hcd S len fun A outer s H vs Q E hr hs => ?_
  obtain ⟨t, h, q⟩ := hbody A outer s H vs Q E hr hs
  exact ⟨t, h.nox, q⟩
theorem FunT.fn {K : PySem.W.Frag} {x : Str} {st : Stmt} {f c : Addr} {fd : FuncData} (F : FunT K x st f fd c) : Fun K x x st f fd := let ⟨oc, od, kV, doc, pm, an, ct, osl, e, lk, hcd⟩ := F.ex; ⟨⟨oc, od, kV, doc, pm, an, .ref c, ct, osl, e, lk, hcd⟩, F.kp⟩
abbrev lamNm : Str := (("round_bits" : Str) ++ (".<locals>." : Str)) ++ ("<lambda>" : Str)
end Bf
namespace Bf
open PySem PySem.Spec PyProof.Rows L2
/-! ### ways -/
def wf (s : Nat) (ks : List Nat) : Nat := ks.foldl (fun h k => h ^^^ 2 ^ k) s
def wl (s : Nat) (ks : List Nat) : List Nat := (List.range (ks.length + 1)).map fun i => wf s (ks.take i)
theorem wf_snoc (s : Nat) (ks : List Nat) (k : Nat) : wf s (ks ++ [k]) = wf s ks ^^^ 2 ^ k := by
  unfold wf
  rw [List.foldl_append]
  rfl
theorem wl_snoc (s : Nat) (ks : List Nat) (k : Nat) : wl s (ks ++ [k]) = wl s ks ++ [wf s ks ^^^ 2 ^ k] := by
  unfold wl
  rw [List.length_append, List.length_singleton, List.range_succ, List.map_append]
  congr 1
  · refine List.map_congr_left fun i hi => ?_
    have := List.mem_range.mp hi
    rw [List.take_append_of_le_length (by omega)]
  · show [wf s ((ks ++ [k]).take (ks.length + 1))] = _
    rw [List.take_of_length_le (by rw [List.length_append]; simp), wf_snoc]
theorem wl_last (s : Nat) (ks : List Nat) : ∃ l, wl s ks = l ++ [wf s ks] := by
  refine ⟨(List.range ks.length).map fun i => wf s (ks.take i), ?_⟩
  unfold wl
  rw [List.range_succ, List.map_append]
  simp
theorem wl_len (s : Nat) (ks : List Nat) : (wl s ks).length = ks.length + 1 := by
  unfold wl
  rw [List.length_map, List.length_range]
theorem wl_nil (s : Nat) : wl s [] = [s] := rfl
theorem wl_at {s : Nat} {ks : List Nat} {i : Nat} (h : i ≤ ks.length) : (wl s ks)[i]? = some (wf s (ks.take i)) := by
  unfold wl
  rw [List.getElem?_map, List.getElem?_range (by omega)]
  rfl
theorem wf_lt {q : Nat} : ∀ {ks : List Nat} {s : Nat}, s < 2 ^ q → (∀ k ∈ ks, k < q) → wf s ks < 2 ^ q
  | [], s, h, _ => h
  | k :: ks, s, h, hk => wf_lt (ks := ks) (Nat.xor_lt_two_pow h (Nat.pow_lt_pow_right (by decide) (hk k List.mem_cons_self))) fun x hx => hk x (List.mem_cons_of_mem _ hx)
theorem wf_xor : ∀ (ks : List Nat) (s : Nat), wf s ks = s ^^^ wf 0 ks
  | [], s => by simp [wf]
  | k :: ks, s => by
    have h1 := wf_xor ks (s ^^^ 2 ^ k)
    have h2 := wf_xor ks (0 ^^^ 2 ^ k)
    show wf (s ^^^ 2 ^ k) ks = s ^^^ wf (0 ^^^ 2 ^ k) ks
    rw [h1, h2, Nat.zero_xor, Nat.xor_assoc]
theorem wf_bit {i : Nat} : ∀ {ks : List Nat}, ks.Nodup → (wf 0 ks).testBit i = decide (i ∈ ks)
  | [], _ => by simp [wf]
  | k :: ks, nd => by
    obtain ⟨n1, n2⟩ := List.nodup_cons.mp nd
    have h2 := wf_xor ks (0 ^^^ 2 ^ k)
    show (wf (0 ^^^ 2 ^ k) ks).testBit i = _
    rw [h2, Nat.zero_xor, Nat.testBit_xor, wf_bit n2, Nat.testBit_two_pow]
    by_cases e : i = k
    · subst e
      simp [n1]
    · have e2 : ¬ k = i := fun z => e z.symm
      simp [e, e2]
theorem rb_nodup (q h j : Nat) : (rb q h j).Nodup := (rb_sorted q h j).imp fun {a b} hab e => by
  subst e
  exact Int.lt_irrefl _ hab
theorem wf_rb {q d j : Nat} (hd : d < 2 ^ q) : wf 0 (rb q d j) = d := by
  refine Nat.eq_of_testBit_eq fun i => ?_
  rw [wf_bit (rb_nodup q d j)]
  cases e : d.testBit i with
  | true =>
    refine decide_eq_true (mem_rb.mpr ⟨Nat.lt_of_not_le fun l => ?_, e⟩)
    rw [Nat.testBit_lt_two_pow (Nat.lt_of_lt_of_le hd (Nat.pow_le_pow_right (by decide) l))] at e
    cases e
  | false =>
    refine decide_eq_false fun z => ?_
    rw [(mem_rb.mp z).2] at e
    cases e
/-- the turns behind the first, so many of them -/
def tp (q d j n : Nat) : List Nat := ((List.range n).map fun i => (j + (1 + i)) % q).filter fun k => d.testBit k
theorem tp_succ (q d j n : Nat) : tp q d j (n + 1) = tp q d j n ++ (if d.testBit ((j + (1 + n)) % q) = true then [(j + (1 + n)) % q] else []) := by
  unfold tp
  rw [List.range_succ, List.map_append, List.filter_append]
  cases e : d.testBit ((j + (1 + n)) % q) <;> simp [e]
theorem tp_len (q d j n : Nat) : (tp q d j n).length ≤ n := by
  have h1 := List.length_filter_le (fun k => d.testBit k) ((List.range n).map fun i => (j + (1 + i)) % q)
  rw [List.length_map, List.length_range] at h1
  exact h1
theorem tp_lt {q d j n k : Nat} (hq : 0 < q) (h : k ∈ tp q d j n) : k < q := by
  unfold tp at h
  obtain ⟨i, _, rfl⟩ := List.mem_map.mp (List.mem_filter.mp h).1
  exact Nat.mod_lt _ hq
theorem rb_split {q d j : Nat} (hj : j < q) : rb q d j = (if d.testBit j = true then [j] else []) ++ tp q d j (q - 1) := by
  unfold rb tp
  obtain ⟨n, rfl⟩ : ∃ n, q = n + 1 := ⟨q - 1, by omega⟩
  rw [List.range_succ_eq_map, List.map_cons, Nat.add_sub_cancel, Nat.add_zero, Nat.mod_eq_of_lt hj, List.map_map]
  have e : (List.range n).map ((fun i => (j + i) % (n + 1)) ∘ Nat.succ) = (List.range n).map fun i => (j + (1 + i)) % (n + 1) := List.map_congr_left fun i _ => by
    show (j + (i + 1)) % (n + 1) = _
    rw [Nat.add_comm i 1]
  rw [e]
  cases eb : d.testBit j <;> simp [eb]
/-- the bits crossed in tree j -/
def cl (q d j : Nat) : List Nat := j :: tp q d j (q - 1) ++ (if d.testBit j = true then [] else [j])
theorem cl_in {q d j : Nat} (hj : j < q) (h : d.testBit j = true) : cl q d j = rb q d j := by
  rw [rb_split hj]
  unfold cl
  simp [h]
theorem cl_out {q d j : Nat} (hj : j < q) (h : d.testBit j = false) : cl q d j = [j] ++ rb q d j ++ [j] := by
  rw [rb_split hj]
  unfold cl
  simp [h]
theorem cl_lt {q d j k : Nat} (hj : j < q) (h : k ∈ cl q d j) : k < q := by
  unfold cl at h
  rcases List.mem_append.mp h with h | h
  · rcases List.mem_cons.mp h with rfl | h
    · exact hj
    · exact tp_lt (by omega) h
  · split at h
    · exact absurd h List.not_mem_nil
    · rw [List.mem_singleton.mp h]
      exact hj
theorem cl_len (q d j : Nat) (hq : 0 < q) : (cl q d j).length ≤ q + 1 := by
  unfold cl
  have := tp_len q d j (q - 1)
  rw [List.length_append, List.length_cons]
  split <;> simp <;> omega
theorem cl_ne (q d j : Nat) : cl q d j ≠ [] := by
  unfold cl
  simp
theorem wf_cl {q d j : Nat} (hj : j < q) (hd : d < 2 ^ q) (s : Nat) : wf s (cl q d j) = s ^^^ d := by
  rw [wf_xor]
  congr 1
  cases e : d.testBit j with
  | true => rw [cl_in hj e, wf_rb hd]
  | false =>
    rw [cl_out hj e, wf_snoc]
    have h1 : wf 0 ([j] ++ rb q d j) = 2 ^ j ^^^ d := by
      show wf (0 ^^^ 2 ^ j) (rb q d j) = _
      rw [wf_xor, wf_rb hd, Nat.zero_xor]
    rw [h1, Nat.xor_comm (2 ^ j) d, Nat.xor_assoc, Nat.xor_self, Nat.xor_zero]
end Bf
namespace Bf
open PySem PySem.Spec PyProof.Rows L2 LamX NdefX
theorem op_xorN {X : Cx} : OpR X (binaryOp .BitXor) (fun x y H Q => ∃ n m : Nat, x = .int (n : Int) ∧ y = .int (m : Int) ∧ Q (.int ((n ^^^ m : Nat) : Int)) H) := by
  intro pins s σ H x y v u Q I rx ry h
  obtain ⟨n, m, rfl, rfl, q⟩ := h
  refine op_xor pins s σ H _ _ v u Q I rx ry ⟨(n : Int), (m : Int), rfl, rfl, ?_⟩
  show Q (.int (Builtin.bitXor (n : Int) (m : Int))) H
  rw [Bits.bitXor_pp (Int.natCast_nonneg n) (Int.natCast_nonneg m)]
  exact q
theorem op_modNN {X : Cx} : OpR X (binaryOp .Mod) (fun x y H Q => ∃ n m : Nat, x = .int (n : Int) ∧ y = .int (m : Int) ∧ 0 < m ∧ Q (.int ((n % m : Nat) : Int)) H) := by
  intro pins s σ H x y v u Q I rx ry h
  obtain ⟨n, m, rfl, rfl, hm, q⟩ := h
  refine op_mod pins s σ H _ _ v u Q I rx ry ⟨(n : Int), (m : Int), rfl, rfl, (show (0 : Int) < (m : Int) by omega), ?_⟩
  rw [Int.natCast_emod] at q
  exact q
/-! ### defs with source=0 behind a star -/
abbrev FunS (K : PySem.W.Frag) (x : Str) (st : Stmt) (f : Addr) (fd : FuncData) : Prop := FunD K x x (defArgs st) (defBody st) (defScope st) [] [("source", .int 0)] f fd
theorem FunS.go {P : Program} {w : World} {K : PySem.W.Frag} {mg : Str → Option Value} {base : Heap} {x : Str} {st : Stmt} {f : Addr} {fd : FuncData} {N ps : List Str} {k : Nat} {sp : Sp} (F : FunS K x st f fd) (S : FnScope N ps (defScope st)) (len : ∀ vs H Q E, sp vs H Q E → vs.length = ps.length)
    (hbody : ∀ (cdv : Value) (A : Around) (outer : List Env) (s : Shared) (H : Hp) (vs : List V) (Q : VK) (E : XK), Room k (A.deeper (envOfC x (defScope st) s.heap.objs.size f cdv)) → sp vs H Q E →
      ∃ t, PSs (cxOf CX0 P w K mg base N x (defScope st) f cdv A outer s H E).nox (defBody st) t ∧ t { nx := fun _ H' => Q .non H', rt := Q } (start N vs) H) : FnOk P w K mg base CX0 (k + 1) f fd ps sp :=
  FunD.ok F S len fun cdv A outer s H vs Q E hr hs => let ⟨t, h, q⟩ := hbody cdv A outer s H vs Q E hr hs; ⟨t, h.nox, q⟩
def g3 {α : Type} (us ws : List α) : List α := match us, ws with
  | [a, b, c], [d] => [a, b, c, d]
  | _, _ => []
theorem g3_rel {vs zs : List V} {us ws : List Value} (r1 : Vals vs us) (r2 : Vals zs ws) : Vals (g3 vs zs) (g3 us ws) := by
  match r1, r2 with
  | .nil, _ => exact .nil
  | .cons _ .nil, _ => exact .nil
  | .cons _ (.cons _ .nil), _ => exact .nil
  | .cons _ (.cons _ (.cons _ .nil)), .nil => exact .nil
  | .cons a (.cons b (.cons c .nil)), .cons d .nil => exact .cons a (.cons b (.cons c (.cons d .nil)))
  | .cons _ (.cons _ (.cons _ .nil)), .cons _ (.cons _ _) => exact .nil
  | .cons _ (.cons _ (.cons _ (.cons _ _))), _ => exact .nil
theorem g3_len {us ws : List Value} (h : (g3 us ws).length = 4) : ∃ a b c d, us = [a, b, c] ∧ ws = [d] := by
  match us, ws, h with
  | [a, b, c], [d], _ => exact ⟨a, b, c, d, rfl, rfl⟩
  | [], _, h => cases h
  | [_], _, h => cases h
  | [_, _], _, h => cases h
  | [_, _, _], [], h => cases h
  | [_, _, _], _ :: _ :: _, h => cases h
  | _ :: _ :: _ :: _ :: _, _, h => cases h
theorem kbS {K : PySem.W.Frag} {x : Str} {st : Stmt} {f : Addr} {fd : FuncData} (F : FunS K x st f fd) (h : ∀ (kV doc pm : Value) (an : Option Addr) (cdv ct a b c d : Value), bindArgs (PySem.W.fnOf x x (defArgs st) (defBody st) (defScope st) .none kV doc pm an cdv ct) ⟨[a, b, c], [(("source" : Str), d)]⟩ = pure ([("q", a), ("hand", b), ("j", c), ("source", d)] : List (Str × Value))) :
    KBinds K fd ["q", "hand", "j", "source"] ["source"] g3 g3 := by
  obtain ⟨oc, od, dV, kV, doc, pm, an, cdv, ct, osl, rfl, lk, hcd, hD, hK⟩ := F.ex
  rcases hD with ⟨_, rfl⟩ | ⟨z, _⟩
  · refine ⟨fun s us ws _ hl => ?_, fun r1 r2 => g3_rel r1 r2⟩
    obtain ⟨a, b, c, d, rfl, rfl⟩ := g3_len hl
    exact .of_eq (h kV doc pm an cdv ct a b c d)
  · exact absurd rfl z
/-! ### tuples that expressions give, tables aside -/
def GE (K : PySem.W.Frag) (T : List (Addr × Str)) (t : TE) (σ : L2.St) (H : Hp) (vs : List V) : Prop := ∀ H1, ExtN H H1 → Tabs T H1 → ∀ Q : VK, (∀ H2 x, ExtN H1 H2 → Tabs T H2 → SqT K H2 x vs → Q (.ref x) H2) → t σ H1 Q
theorem ge_cat {K : PySem.W.Frag} {T : List (Addr × Str)} {ta tb : TE} {σ : L2.St} {H : Hp} {xs ys : List V} (ha : GE K T ta σ H xs) (hb : GE K T tb σ H ys) (hz : xs.length + ys.length ≤ sizeLine) : GE K T (tOp (rCatA K) ta tb) σ H (xs ++ ys) := fun H1 s t Q q => ha H1 s t _ fun H2 x s2 t2 hx =>
  hb H2 (s.trans s2) t2 _ fun H3 y s3 t3 hy => by
    refine ⟨x, y, xs, ys, rfl, rfl, extT s3 hx, hy, hz, fun e => ?_, fun _ e => ?_, fun _ _ p np => ?_⟩
    · exact q H3 y (s2.trans s3) t3 (by rw [e]; exact hy)
    · exact q H3 x (s2.trans s3) t3 (by rw [e, List.append_nil]; exact extT s3 hx)
    · exact q _ p (ext_new (s2.trans s3) np) (tabs_new t3 np) (.inl (.inl upd_same))
theorem ge_one {K : PySem.W.Frag} {T : List (Addr × Str)} {i : Nat} {σ : L2.St} {H : Hp} {v : V} (hi : σ[i]? = some (some v)) : GE K T (tTup (tCons (tVar i) tNil)) σ H [v] := fun H1 s t Q q =>
  ⟨v, hi, (by show 1 ≤ sizeLine; decide), fun p np => q _ p (ext_new (ExtN.refl H1) np) (tabs_new t np) (.inl (.inl upd_same))⟩
end Bf
namespace Bf
open PySem PySem.Spec PyProof.Rows L2
/-! ### who hears whom -/
theorem sorted_last {α : Type} {key : α → Int} {k : α} : ∀ {l : List α}, l.Pairwise (fun a b => key a < key b) → (l.getLast? = some k ↔ k ∈ l ∧ ∀ x ∈ l, key x ≤ key k)
  | [], _ => by simp
  | [a], _ => by
    simp only [List.getLast?_singleton, Option.some.injEq, List.mem_singleton]
    constructor
    · rintro rfl
      exact ⟨rfl, fun x hx => by rw [hx]; exact Int.le_refl _⟩
    · exact fun h => h.1.symm
  | a :: b :: l, hp => by
    obtain ⟨h1, h2⟩ := List.pairwise_cons.mp hp
    have ih := sorted_last (k := k) h2
    rw [List.getLast?_cons_cons, ih]
    constructor
    · rintro ⟨m, h⟩
      refine ⟨List.mem_cons_of_mem _ m, fun x hx => ?_⟩
      rcases List.mem_cons.mp hx with rfl | hx
      · exact Int.le_of_lt (h1 k m)
      · exact h x hx
    · rintro ⟨m, h⟩
      have hb := h1 b List.mem_cons_self
      have hb2 := h b (List.mem_cons_of_mem _ List.mem_cons_self)
      rcases List.mem_cons.mp m with rfl | m
      · omega
      · exact ⟨m, fun x hx => h x (List.mem_cons_of_mem _ hx)⟩
theorem bit_xor (d k x : Nat) : (d ^^^ 2 ^ k).testBit x = (d.testBit x ^^ decide (k = x)) := by rw [Nat.testBit_xor, Nat.testBit_two_pow]
theorem lt_of_bit {d q x : Nat} (hd : d < 2 ^ q) (h : d.testBit x = true) : x < q := Nat.lt_of_not_le fun l => by
  rw [Nat.testBit_lt_two_pow (Nat.lt_of_lt_of_le hd (Nat.pow_le_pow_right (by decide) l))] at h
  cases h
theorem ar_self {q j : Nat} : ar q j j = 0 := by
  unfold ar
  rw [Int.sub_self, Int.zero_emod]
theorem ar_nn {q j x : Nat} (hq : 0 < q) : 0 ≤ ar q j x := Int.emod_nonneg _ (by omega)
theorem ar_lt {q j x : Nat} (hq : 0 < q) : ar q j x < q := Int.emod_lt_of_pos _ (by omega)
/-- k is the last bit crossed to the hand across by k -/
def Hr (q d j k : Nat) : Prop := (cl q (d ^^^ 2 ^ k) j).getLast? = some k
theorem hr_iff {q d j k : Nat} (hj : j < q) (hk : k < q) (hd : d < 2 ^ q) : Hr q d j k ↔ (k = j ∧ (d = 0 ∨ d.testBit j = true)) ∨ (d.testBit j = true ∧ k ≠ j ∧ ∀ x, d.testBit x = true → ar q j x < ar q j k) := by
  have hq : 0 < q := by omega
  have hd' : d ^^^ 2 ^ k < 2 ^ q := Nat.xor_lt_two_pow hd (Nat.pow_lt_pow_right (by decide) hk)
  have bj := bit_xor d k j
  unfold Hr
  by_cases e : k = j
  · subst e
    rw [decide_eq_true rfl] at bj
    cases b : d.testBit k with
    | true =>
      rw [b] at bj
      rw [cl_out hj bj, List.getLast?_append, List.getLast?_singleton]
      simp
    | false =>
      rw [b] at bj
      rw [cl_in hj bj, sorted_last (rb_sorted q _ k)]
      constructor
      · rintro ⟨m, h⟩
        refine .inl ⟨rfl, .inl ?_⟩
        refine Nat.eq_of_testBit_eq fun x => ?_
        rw [Nat.zero_testBit]
        cases bx : d.testBit x with
        | false => rfl
        | true =>
          exfalso
          have hx : x < q := lt_of_bit hd bx
          have hxk : k ≠ x := fun z => by rw [z, bx] at b; cases b
          have hx2 : x ∈ rb q (d ^^^ 2 ^ k) k := mem_rb.mpr ⟨hx, by rw [bit_xor, bx, decide_eq_false hxk]; rfl⟩
          have h1 := h x hx2
          rw [ar_self] at h1
          have h2 := ar_nn (q := q) (j := k) (x := x) hq
          have h3 : ar q k x = ar q k k := by rw [ar_self]; omega
          exact hxk (ar_inj hx hk h3).symm
      · rintro (⟨_, h | h⟩ | ⟨h, _⟩)
        · subst h
          refine ⟨mem_rb.mpr ⟨hk, bj⟩, fun x hx => ?_⟩
          have := (mem_rb.mp hx).2
          rw [bit_xor, Nat.zero_testBit] at this
          have hx : k = x := by simpa using this
          rw [hx]
          exact Int.le_refl _
        · cases h
        · cases h
  · rw [decide_eq_false e, Bool.xor_false] at bj
    cases b : d.testBit j with
    | false =>
      rw [b] at bj
      rw [cl_out hj bj]
      constructor
      · intro h
        rw [List.getLast?_append, List.getLast?_singleton] at h
        exact absurd (Option.some.inj h).symm e
      · rintro (⟨h, _⟩ | ⟨h, _⟩)
        · exact absurd h e
        · cases h
    | true =>
      rw [b] at bj
      rw [cl_in hj bj, sorted_last (rb_sorted q _ j)]
      constructor
      · rintro ⟨m, h⟩
        refine .inr ⟨rfl, e, fun x bx => ?_⟩
        have m2 := (mem_rb.mp m).2
        have hkx : k ≠ x := fun z => by
          rw [bit_xor, z, bx, decide_eq_true rfl] at m2
          cases m2
        have hx : x < q := lt_of_bit hd bx
        have h1 := h x (mem_rb.mpr ⟨hx, by rw [bit_xor, bx, decide_eq_false hkx]; rfl⟩)
        have h2 : ar q j x ≠ ar q j k := fun z => hkx (ar_inj hx hk z).symm
        omega
      · rintro (⟨h, _⟩ | ⟨_, _, h⟩)
        · exact absurd h e
        · have bk : d.testBit k = false := by
            cases z : d.testBit k with
            | false => rfl
            | true => exact absurd (h k z) (Int.lt_irrefl _)
          refine ⟨mem_rb.mpr ⟨hk, by rw [bit_xor, bk, decide_eq_true rfl]; rfl⟩, fun x hx => ?_⟩
          by_cases hkx : k = x
          · rw [hkx]
            exact Int.le_refl _
          · have hx2 := (mem_rb.mp hx).2
            rw [bit_xor, decide_eq_false hkx, Bool.xor_false] at hx2
            exact Int.le_of_lt (h x hx2)
theorem xor_pow_inj {h a b : Nat} (e : h ^^^ 2 ^ a = h ^^^ 2 ^ b) : a = b := by
  have : 2 ^ a = 2 ^ b := by
    have := congrArg (h ^^^ ·) e
    simpa [← Nat.xor_assoc] using this
  exact (Nat.pow_right_inj (by decide)).mp this
/-- the places behind p -/
def onw (q h j p n : Nat) : List Nat := (List.range n).map fun i => h ^^^ 2 ^ ((j + (p + i)) % q)
theorem onw_succ (q h j p n : Nat) : onw q h j p (n + 1) = onw q h j p n ++ [h ^^^ 2 ^ ((j + (p + n)) % q)] := by
  unfold onw
  rw [List.range_succ, List.map_append]
  rfl
theorem onw_len (q h j p n : Nat) : (onw q h j p n).length = n := by
  unfold onw
  rw [List.length_map, List.length_range]
theorem hears_mem {q h j d p : Nat} (hj : j < q) (hd : d < 2 ^ q) (b : d.testBit j = true) (hp : ∀ x, d.testBit x = true → ar q j x ≤ (p : Int)) (hp2 : ∃ x, d.testBit x = true ∧ ar q j x = (p : Int)) (x : Nat) :
    x ∈ (h ^^^ 2 ^ j) :: onw q h j (p + 1) (q - (p + 1)) ↔ ∃ k, k < q ∧ x = h ^^^ 2 ^ k ∧ Hr q d j k := by
  have hq : 0 < q := by omega
  constructor
  · intro hx
    rcases List.mem_cons.mp hx with rfl | hx
    · exact ⟨j, hj, rfl, (hr_iff hj hj hd).mpr (.inl ⟨rfl, .inr b⟩)⟩
    · unfold onw at hx
      obtain ⟨i, hi, rfl⟩ := List.mem_map.mp hx
      have hi := List.mem_range.mp hi
      have hk : (j + (p + 1 + i)) % q < q := Nat.mod_lt _ hq
      have ea := ar_at (q := q) (i := p + 1 + i) j (by omega)
      refine ⟨_, hk, rfl, (hr_iff hj hk hd).mpr (.inr ⟨b, fun z => ?_, fun x bx => ?_⟩)⟩
      · rw [z, ar_self] at ea
        omega
      · have := hp x bx
        rw [ea]
        omega
  · rintro ⟨k, hk, rfl, hr⟩
    rcases (hr_iff hj hk hd).mp hr with ⟨rfl, _⟩ | ⟨_, hne, hlt⟩
    · exact List.mem_cons_self
    · obtain ⟨i, hi, e⟩ := at_of j hk
      have ea := ar_at (q := q) (i := i) j hi
      rw [e] at ea
      obtain ⟨x, bx, ex⟩ := hp2
      have h1 := hlt x bx
      rw [ea, ex] at h1
      refine List.mem_cons_of_mem _ (List.mem_map.mpr ⟨i - (p + 1), List.mem_range.mpr (by omega), ?_⟩)
      have : p + 1 + (i - (p + 1)) = i := by omega
      show h ^^^ 2 ^ ((j + (p + 1 + (i - (p + 1)))) % q) = _
      rw [this, e]
theorem hears_nodup {q h j p : Nat} (hj : j < q) : ((h ^^^ 2 ^ j) :: onw q h j (p + 1) (q - (p + 1))).Nodup := by
  have hq : 0 < q := by omega
  have key : ∀ i, i < q → ∀ i', i' < q → h ^^^ 2 ^ ((j + i) % q) = h ^^^ 2 ^ ((j + i') % q) → i = i' := fun i hi i' hi' e => by
    have e1 := xor_pow_inj e
    have a1 := ar_at (q := q) (i := i) j hi
    have a2 := ar_at (q := q) (i := i') j hi'
    rw [e1, a2] at a1
    omega
  refine List.nodup_cons.mpr ⟨fun z => ?_, ?_⟩
  · unfold onw at z
    obtain ⟨i, hi, e⟩ := List.mem_map.mp z
    have hi := List.mem_range.mp hi
    have e2 : h ^^^ 2 ^ ((j + (p + 1 + i)) % q) = h ^^^ 2 ^ ((j + 0) % q) := by
      have e0 : (j + 0) % q = j := Nat.mod_eq_of_lt hj
      rw [e0]; exact e
    have := key (p + 1 + i) (by omega) 0 hq e2
    omega
  · unfold onw List.Nodup
    rw [List.pairwise_map]
    refine (List.pairwise_lt_range).imp_of_mem fun {a b} ha hb hab e => ?_
    have ha := List.mem_range.mp ha
    have hb := List.mem_range.mp hb
    have := key _ (by omega) _ (by omega) e
    omega
end Bf
namespace Bf
open PySem PySem.Spec PyProof.Rows L2 LamX NdefX
theorem wl_step {s : Nat} {ks : List Nat} {i k : Nat} (h : ks[i]? = some k) : wl s (ks.take (i + 1)) = wl s (ks.take i) ++ [wf s (ks.take i) ^^^ 2 ^ k] := by
  rw [List.take_add_one, h]
  exact wl_snoc s (ks.take i) k
theorem tabs_upd {T : List (Addr × Str)} {H : Hp} {D : Addr} {xs ys : List V} (t : Tabs T H) (h : H D = some (.lst xs)) : Tabs T (upd H D (.lst ys)) := fun y hy => by
  obtain ⟨ps, t1, t2, t3⟩ := t y hy
  refine ⟨ps, ?_, t2, fun pos cv hc => ?_⟩
  · rw [upd_ne (fun e => by rw [e, h] at t1; cases t1)]
    exact t1
  · obtain ⟨c, e1, e2⟩ := t3 pos cv hc
    refine ⟨c, e1, ?_⟩
    rw [upd_ne (fun e => by rw [e, h] at e2; unfold CodeO at e2; cases e2)]
    exact e2
theorem nv_last {l : List Nat} {z : Nat} : atI (nv (l ++ [z])) (-1) = some (.int (z : Int)) := by
  have e : nv (l ++ [z]) = nv l ++ [.int (z : Int)] := by
    unfold nv
    rw [List.map_append]
    rfl
  rw [e]
  exact atI_last _ _
theorem nv_get' {ks : List Nat} {i : Nat} {x : V} (hx : (nv ks)[i]? = some x) : ∃ n, ks[i]? = some n ∧ V.int (n : Int) = x := by
  unfold nv at hx
  rw [List.getElem?_map] at hx
  cases e : ks[i]? with
  | none => rw [e] at hx; cases hx
  | some z => rw [e] at hx; exact ⟨z, rfl, Option.some.inj hx⟩
/-! ### small things -/
theorem pot_ne {H : Hp} {p u : Addr} {m : Nat} (h : Pot H p m) (n : H u = none) : u ≠ p := fun e => by
  obtain ⟨x, y, z, hH, _⟩ := h
  rw [e, hH] at n
  cases n
/-! ### if t: x = e -/
theorem rd_ifSet {tt : TT} {te : TE} {i : Nat} {D : Ends} {σ : L2.St} {H : Hp} (b : Bool) (R : V → Hp → Prop) (h0 : ∀ Q' : Bool → Hp → Prop, Q' b H → tt σ H Q') (h1 : b = true → ∀ Q : VK, (∀ x H', R x H' → Q x H') → te σ H Q)
    (h2 : b = false → ∃ x, σ[i]? = some (some x) ∧ R x H) (h : ∀ x H', R x H' → D.nx (σ.set i (some x)) H') : tIfS tt (tAsg te (gName i)) tNext D σ H := by
  refine h0 _ ?_
  cases b with
  | true => exact iteT (h1 rfl _ fun x H' r => h x H' r)
  | false =>
    obtain ⟨x, hx, r⟩ := h2 rfl
    have e : σ.set i (some x) = σ := by
      refine List.ext_getElem? fun j => ?_
      rw [List.getElem?_set]
      split
      · rename_i ej
        subst ej
        rw [hx]
        split
        · rfl
        · rename_i hj
          exact absurd (List.getElem?_eq_some_iff.mp hx).1 hj
      · rfl
    have z := h x H r
    rw [e] at z
    exact iteF z
theorem wl_small {q s : Nat} {ks : List Nat} (hq : q ≤ 60) (hs : s < 2 ^ q) (hk : ∀ k ∈ ks, k < q) : ∀ n ∈ wl s ks, n < 2 ^ 61 := fun n hn => by
  unfold wl at hn
  obtain ⟨i, _, rfl⟩ := List.mem_map.mp hn
  have h1 : wf s (ks.take i) < 2 ^ q := wf_lt hs fun k hk2 => hk k (List.mem_of_mem_take hk2)
  exact Nat.lt_of_lt_of_le h1 (Nat.pow_le_pow_right (by decide) (by omega))
theorem atI_2 {α : Type} (xs : List α) (u v : α) : atI (xs ++ [u, v]) (-2) = some u := by
  have hl : (xs ++ [u, v]).length = xs.length + 2 := by simp
  have e : ixN (xs ++ [u, v]).length (-2) = some xs.length := by
    unfold ixN
    rw [hl, if_neg (by decide), if_pos (by omega)]
    congr 1
    omega
  unfold atI
  rw [e]
  show (xs ++ [u, v])[xs.length]? = some u
  rw [List.getElem?_append_right (Nat.le_refl _), Nat.sub_self]
  rfl
/-- the last hand but one -/
theorem wl_but0 {s h : Nat} {ks : List Nat} (hne : ks ≠ []) (e1 : wf s ks = h) : atI (nv (wl s ks)) (-2) = some (.int (h ^^^ 2 ^ (ks.getLast hne) : Nat)) := by
  have ek : ks = ks.dropLast ++ [ks.getLast hne] := (List.dropLast_concat_getLast hne).symm
  have e3 : wf s ks.dropLast ^^^ 2 ^ (ks.getLast hne) = h := by rw [← wf_snoc, ← ek]; exact e1
  have e4 : wf s ks.dropLast = h ^^^ 2 ^ (ks.getLast hne) := by rw [← e3, Nat.xor_assoc, Nat.xor_self, Nat.xor_zero]
  obtain ⟨l0, el⟩ := wl_last s ks.dropLast
  have e5 : wl s ks = l0 ++ [wf s ks.dropLast, wf s ks.dropLast ^^^ 2 ^ (ks.getLast hne)] := by
    have z : wl s ks = wl s (ks.dropLast ++ [ks.getLast hne]) := congrArg (wl s) ek
    rw [z, wl_snoc, el]
    simp
  have e6 : nv (wl s ks) = nv l0 ++ [.int (wf s ks.dropLast : Nat), .int (wf s ks.dropLast ^^^ 2 ^ (ks.getLast hne) : Nat)] := by
    rw [e5]
    unfold nv
    rw [List.map_append]
    rfl
  rw [e6, atI_2, e4]
theorem xor_back (s h : Nat) : s ^^^ (h ^^^ s) = h := by rw [Nat.xor_comm h s, ← Nat.xor_assoc, Nat.xor_self, Nat.zero_xor]
theorem wl_but {q h s j : Nat} (hj : j < q) (hh : h < 2 ^ q) (hs : s < 2 ^ q) : atI (nv (wl s (cl q (h ^^^ s) j))) (-2) = some (.int (h ^^^ 2 ^ ((cl q (h ^^^ s) j).getLast (cl_ne _ _ _)) : Nat)) :=
  wl_but0 (cl_ne _ _ _) (by rw [wf_cl hj (Nat.xor_lt_two_pow hh hs), xor_back])
/-! ### crossed of the law -/
/-- a loop over zip of two tuples, the second no longer -/
theorem for_zipS {K : PySem.W.Frag} {a b : Addr} {xs ys : List V} {g : TG} {tb : TS} {D : Ends} {σ : L2.St} {H : Hp} (hl : ys.length ≤ xs.length) (Pv : Nat → L2.St → Hp → Prop) (h0 : Pv 0 σ H) (hq : ∀ i σ H, Pv i σ H → SqT K H a xs ∧ SqT K H b ys)
    (hs : ∀ (i : Nat) (x y : V) (T : Addr) (σ : L2.St) (H : Hp), xs[i]? = some x → ys[i]? = some y → Pv i σ H → H T = none → g (.ref T) σ (upd H T (.tup [x, y])) fun σ2 H2 => tb { D with nx := Pv (i + 1), ct := Pv (i + 1), bk := D.nx } σ2 H2) (hd : ∀ σ H, Pv ys.length σ H → D.nx σ H) :
    ∃ W : Nat → Nat → L2.St → Hp → Prop, (∃ m, W 0 m σ H) ∧ ∀ i m σ H, W i m σ H →
      ((RZ.ItzT K a b).stop i H ∧ D.nx σ H) ∨ ((RZ.ItzT K a b).go i H ∧ ∃ N : L2.St → Hp → Prop, (∀ σ' H', N σ' H' → ∃ m', m' < m ∧ W (i + 1) m' σ' H') ∧ ∀ v H', (RZ.ItzT K a b).yld i H v H' → g v σ H' fun σ2 H2 => tb { D with nx := N, ct := N, bk := D.nx } σ2 H2) := by
  refine ⟨fun i m σ H => i + m = ys.length ∧ Pv i σ H, ⟨ys.length, Nat.zero_add _, h0⟩, fun i m σ H hW => ?_⟩
  obtain ⟨e, p⟩ := hW
  obtain ⟨qa, qb⟩ := hq i σ H p
  cases m with
  | zero =>
    have e2 : i = ys.length := e
    exact .inl ⟨⟨xs, ys, qa, qb, .inr (Nat.le_of_eq e2.symm)⟩, hd σ H (e2 ▸ p)⟩
  | succ m =>
    have l2 : i < ys.length := by omega
    have l1 : i < xs.length := by omega
    refine .inr ⟨⟨xs, ys, xs[i], ys[i], qa, qb, List.getElem?_eq_getElem l1, List.getElem?_eq_getElem l2⟩, Pv (i + 1), fun σ' H' p' => ⟨m, Nat.lt_succ_self m, by omega, p'⟩, fun v H' z => ?_⟩
    obtain ⟨T, x, y, rfl, nT, rfl, z1, z2⟩ := z
    exact hs i x y T σ H (z1 xs qa) (z2 ys qb) p nT
theorem one_of (kk : Nat) : ∀ n, (List.range n).filter (fun k => decide (kk = k)) = if kk < n then [kk] else []
  | 0 => rfl
  | n + 1 => by
    rw [List.range_succ, List.filter_append, one_of kk n]
    by_cases e : kk = n
    · subst e
      simp
    · by_cases l : kk < n
      · simp [e, l, Nat.lt_succ_of_lt l]
      · have : ¬ kk < n + 1 := by omega
        simp [e, l, this]
theorem pow_dec (a b : Nat) : decide (V.int ((2 ^ a : Nat) : Int) = V.int ((2 ^ b : Nat) : Int)) = decide (a = b) := by
  by_cases e : a = b
  · subst e
    simp
  · have h : ¬ V.int ((2 ^ a : Nat) : Int) = V.int ((2 ^ b : Nat) : Int) := fun z => e ((Nat.pow_right_inj (by decide)).mp (Int.ofNat.inj (V.int.inj z)))
    rw [decide_eq_false e, decide_eq_false h]
end Bf
namespace Bf
open PySem PySem.Spec PyProof.Rows L2
/-! ### once round -/
theorem sorted_head {α : Type} {key : α → Int} {k : α} : ∀ {l : List α}, l.Pairwise (fun a b => key a < key b) → k ∈ l → (∀ x ∈ l, key k ≤ key x) → l.head? = some k
  | [], _, h, _ => absurd h List.not_mem_nil
  | a :: l, hp, hm, hk => by
    obtain ⟨h1, _⟩ := List.pairwise_cons.mp hp
    rcases List.mem_cons.mp hm with rfl | hm
    · rfl
    · have := h1 k hm
      have := hk a List.mem_cons_self
      omega
theorem ar_rel {q st k x : Nat} (c : Int) : ((x : Int) - ((k : Int) + c)) % (q : Int) = (ar q st x - ar q st k - c) % (q : Int) := by
  unfold ar
  rw [Int.emod_def ((x : Int) - st) q, Int.emod_def ((k : Int) - st) q]
  generalize ((x : Int) - st) / q = u
  generalize ((k : Int) - st) / q = v
  have e : (x : Int) - st - q * u - ((k : Int) - st - q * v) - c = ((x : Int) - (k + c)) + q * (v - u) := by
    rw [Int.mul_sub]
    omega
  rw [e, Int.add_mul_emod_self_left]
theorem ar_next {q st k x : Nat} (hq : 0 < q) : ar q (k + 1) x = if ar q st k < ar q st x then ar q st x - ar q st k - 1 else ar q st x - ar q st k - 1 + q := by
  have h := ar_rel (q := q) (st := st) (k := k) (x := x) 1
  have e : ar q (k + 1) x = (ar q st x - ar q st k - 1) % (q : Int) := by
    rw [← h]
    unfold ar
    rw [Int.natCast_add]
    rfl
  have a0 := ar_nn (q := q) (j := st) (x := x) hq
  have a1 := ar_lt (q := q) (j := st) (x := x) hq
  have b0 := ar_nn (q := q) (j := st) (x := k) hq
  have b1 := ar_lt (q := q) (j := st) (x := k) hq
  rw [e]
  split
  · exact Int.emod_eq_of_lt (by omega) (by omega)
  · have : (ar q st x - ar q st k - 1) % (q : Int) = (ar q st x - ar q st k - 1 + q) % (q : Int) := by rw [Int.add_emod_right]
    rw [this]
    exact Int.emod_eq_of_lt (by omega) (by omega)
theorem ar_from {q st k x : Nat} (hq : 0 < q) : ar q k x = if ar q st k ≤ ar q st x then ar q st x - ar q st k else ar q st x - ar q st k + q := by
  have h := ar_rel (q := q) (st := st) (k := k) (x := x) 0
  have e : ar q k x = (ar q st x - ar q st k) % (q : Int) := by
    rw [Int.add_zero, Int.sub_zero] at h
    exact h
  have a0 := ar_nn (q := q) (j := st) (x := x) hq
  have a1 := ar_lt (q := q) (j := st) (x := x) hq
  have b0 := ar_nn (q := q) (j := st) (x := k) hq
  have b1 := ar_lt (q := q) (j := st) (x := k) hq
  rw [e]
  split
  · exact Int.emod_eq_of_lt (by omega) (by omega)
  · have : (ar q st x - ar q st k) % (q : Int) = (ar q st x - ar q st k + q) % (q : Int) := by rw [Int.add_emod_right]
    rw [this]
    exact Int.emod_eq_of_lt (by omega) (by omega)
/-- the next one in the round order -/
theorem next_in {q h st i b c : Nat} (hq : 0 < q) (h1 : (rb q h st)[i]? = some b) (h2 : (rb q h st)[i + 1]? = some c) : (rb q h (b + 1)).head? = some c := by
  have hs := rb_sorted q h st
  have l1 := (List.getElem?_eq_some_iff.mp h1)
  have l2 := (List.getElem?_eq_some_iff.mp h2)
  obtain ⟨g1, e1⟩ := l1
  obtain ⟨g2, e2⟩ := l2
  have hbc : ar q st b < ar q st c := by
    have := List.pairwise_iff_getElem.mp hs i (i + 1) g1 g2 (Nat.lt_succ_self i)
    rw [e1, e2] at this
    exact this
  have mc : c ∈ rb q h st := e2 ▸ List.getElem_mem g2
  refine sorted_head (rb_sorted q h (b + 1)) (mem_rb.mpr (mem_rb.mp mc)) fun x hx => ?_
  have mx : x ∈ rb q h st := mem_rb.mpr (mem_rb.mp hx)
  obtain ⟨m, hm, ex⟩ := List.getElem_of_mem mx
  rw [ar_next (st := st) hq, ar_next (st := st) hq, if_pos hbc]
  have x1 := ar_lt (q := q) (j := st) (x := c) hq
  have x0 := ar_nn (q := q) (j := st) (x := x) hq
  have b1 := ar_nn (q := q) (j := st) (x := b) hq
  split
  · rename_i hlt
    have hmi : i < m := by
      refine Nat.lt_of_not_le fun l => ?_
      rcases Nat.lt_or_eq_of_le l with l | l
      · have := List.pairwise_iff_getElem.mp hs m i hm g1 l
        rw [e1, ex] at this
        omega
      · subst l
        rw [e1] at ex
        subst ex
        omega
    rcases Nat.lt_or_eq_of_le (Nat.succ_le_of_lt hmi) with l | l
    · have := List.pairwise_iff_getElem.mp hs (i + 1) m g2 hm l
      rw [e2, ex] at this
      omega
    · have : c = x := by
        rw [← e2, ← ex]
        congr 1
      rw [this]
      omega
  · omega
theorem next_end {q h st b a : Nat} (hq : 0 < q) (h1 : (rb q h st).getLast? = some b) (h2 : (rb q h st).head? = some a) : (rb q h (b + 1)).head? = some a := by
  have hs := rb_sorted q h st
  obtain ⟨mb, hb⟩ := (sorted_last hs).mp h1
  have ma : a ∈ rb q h st := List.mem_of_head? h2
  have ha : ∀ x ∈ rb q h st, ar q st a ≤ ar q st x := by
    cases e : rb q h st with
    | nil => intro x hx; exact absurd hx List.not_mem_nil
    | cons z l =>
      rw [e] at h2 hs
      have : z = a := Option.some.inj h2
      subst this
      intro x hx
      rcases List.mem_cons.mp hx with rfl | hx
      · exact Int.le_refl _
      · exact Int.le_of_lt ((List.pairwise_cons.mp hs).1 x hx)
  refine sorted_head (rb_sorted q h (b + 1)) (mem_rb.mpr (mem_rb.mp ma)) fun x hx => ?_
  have mx : x ∈ rb q h st := mem_rb.mpr (mem_rb.mp hx)
  have c1 := hb x mx
  have c2 := hb a ma
  have c3 := ha x mx
  rw [ar_next (st := st) hq, ar_next (st := st) hq]
  rw [if_neg (by omega), if_neg (by omega)]
  omega
def stp (q h t : Nat) : Int := if ar q h t = 0 then (q : Int) else ar q h t
theorem steps_sum {q st : Nat} (hq : 0 < q) : ∀ (b : Nat) (l : List Nat), b < q → (∀ x ∈ l, x < q) → st < q → (b :: l).Pairwise (fun a b => ar q st a < ar q st b) → (List.zipWith (stp q) (b :: l) (l ++ [st])).sum = q - ar q st b
  | b, [], hb, _, hst, _ => by
    show stp q b st + 0 = _
    have e := ar_from (q := q) (st := st) (k := b) (x := st) hq
    rw [ar_self] at e
    have b0 := ar_nn (q := q) (j := st) (x := b) hq
    have b1 := ar_lt (q := q) (j := st) (x := b) hq
    unfold stp
    rw [e]
    split <;> split <;> omega
  | b, c :: l, hb, hl, hst, hp => by
    obtain ⟨h1, h2⟩ := List.pairwise_cons.mp hp
    have ih := steps_sum (st := st) hq c l (hl c List.mem_cons_self) (fun x hx => hl x (List.mem_cons_of_mem _ hx)) hst h2
    show stp q b c + (List.zipWith (stp q) (c :: l) (l ++ [st])).sum = _
    rw [ih]
    have hbc := h1 c List.mem_cons_self
    have e := ar_from (q := q) (st := st) (k := b) (x := c) hq
    rw [if_pos (by omega)] at e
    unfold stp
    rw [e, if_neg (by omega)]
    omega
theorem arcs_two {q a b : Nat} (hq : 0 < q) : ar q a b + ar q b a = 0 ∨ ar q a b + ar q b a = q := by
  have e := ar_from (q := q) (st := a) (k := b) (x := a) hq
  rw [ar_self] at e
  have b0 := ar_nn (q := q) (j := a) (x := b) hq
  have b1 := ar_lt (q := q) (j := a) (x := b) hq
  rw [e]
  split <;> omega
end Bf
namespace Bf
open PySem PySem.Spec PyProof.Rows L2
/-! ### each neighbour in one tree -/
theorem cl_last_in {q d j k : Nat} (hj : j < q) (b : d.testBit j = true) : (cl q d j).getLast? = some k ↔ (k < q ∧ d.testBit k = true) ∧ ∀ x, x < q → d.testBit x = true → ar q j x ≤ ar q j k := by
  rw [cl_in hj b, sorted_last (rb_sorted q d j), mem_rb]
  constructor
  · exact fun h => ⟨h.1, fun x h1 h2 => h.2 x (mem_rb.mpr ⟨h1, h2⟩)⟩
  · exact fun h => ⟨h.1, fun x hx => h.2 x (mem_rb.mp hx).1 (mem_rb.mp hx).2⟩
theorem cl_last_out {q d j : Nat} (hj : j < q) (b : d.testBit j = false) : (cl q d j).getLast? = some j := by
  rw [cl_out hj b, List.getLast?_append, List.getLast?_singleton]
  rfl
theorem tree_one {q d j1 j2 k : Nat} (h1 : j1 < q) (h2 : j2 < q) (e1 : (cl q d j1).getLast? = some k) (e2 : (cl q d j2).getLast? = some k) : j1 = j2 := by
  have hq : 0 < q := by omega
  cases b1 : d.testBit j1 with
  | false =>
    rw [cl_last_out h1 b1] at e1
    have k1 : j1 = k := Option.some.inj e1
    cases b2 : d.testBit j2 with
    | false =>
      rw [cl_last_out h2 b2] at e2
      have k2 : j2 = k := Option.some.inj e2
      omega
    | true =>
      have := ((cl_last_in h2 b2).mp e2).1.2
      rw [← k1, b1] at this
      cases this
  | true =>
    obtain ⟨⟨hk, bk⟩, m1⟩ := (cl_last_in h1 b1).mp e1
    cases b2 : d.testBit j2 with
    | false =>
      rw [cl_last_out h2 b2] at e2
      have k2 : j2 = k := Option.some.inj e2
      rw [← k2, b2] at bk
      cases bk
    | true =>
      obtain ⟨_, m2⟩ := (cl_last_in h2 b2).mp e2
      refine Classical.byContradiction fun hne => ?_
      have x1 := m1 j2 h2 b2
      have x2 := m2 j1 h1 b1
      have f1 := ar_from (q := q) (st := j1) (k := j2) (x := k) hq
      have f2 := ar_from (q := q) (st := j1) (k := j2) (x := j1) hq
      rw [ar_self] at f2
      have c0 := ar_nn (q := q) (j := j1) (x := j2) hq
      have a1 := ar_lt (q := q) (j := j1) (x := k) hq
      have c1 : ar q j1 j2 ≠ 0 := fun z => hne (ar_inj (q := q) (j := j1) h1 h2 (by rw [ar_self, z]))
      rw [if_pos x1] at f1
      rw [if_neg (by omega)] at f2
      omega
theorem tree_some {q d k : Nat} (hd : d < 2 ^ q) (hk : k < q) : ∃ j, j < q ∧ (cl q d j).getLast? = some k := by
  have hq : 0 < q := by omega
  cases b : d.testBit k with
  | false => exact ⟨k, hk, cl_last_out hk b⟩
  | true =>
    cases e : rb q d (k + 1) with
    | nil =>
      have : k ∈ rb q d (k + 1) := mem_rb.mpr ⟨hk, b⟩
      rw [e] at this
      exact absurd this List.not_mem_nil
    | cons j l =>
      have mj : j ∈ rb q d (k + 1) := by rw [e]; exact List.mem_cons_self
      obtain ⟨hj, bj⟩ := mem_rb.mp mj
      have hs := rb_sorted q d (k + 1)
      have least : ∀ x, x < q → d.testBit x = true → ar q (k + 1) j ≤ ar q (k + 1) x := fun x hx bx => by
        have mx : x ∈ rb q d (k + 1) := mem_rb.mpr ⟨hx, bx⟩
        rw [e] at mx hs
        rcases List.mem_cons.mp mx with rfl | mx
        · exact Int.le_refl _
        · exact Int.le_of_lt ((List.pairwise_cons.mp hs).1 x mx)
      refine ⟨j, hj, (cl_last_in hj bj).mpr ⟨⟨hk, b⟩, fun x hx bx => ?_⟩⟩
      have y1 := ar_from (q := q) (st := k + 1) (k := j) (x := x) hq
      have y2 := ar_from (q := q) (st := k + 1) (k := j) (x := k) hq
      rw [if_pos (least x hx bx)] at y1
      rw [if_pos (least k hk b)] at y2
      rw [y1, y2]
      have top : ar q (k + 1) k = q - 1 := by
        have := ar_next (q := q) (st := k) (k := k) (x := k) hq
        rw [if_neg (by omega), ar_self] at this
        omega
      have := ar_lt (q := q) (j := k + 1) (x := x) hq
      omega
end Bf
namespace Bf
open PySem PySem.Spec PyProof.Rows L2 LamX NdefX
/-! ### the tree whose turn it is -/
def trF (q d k : Nat) : Nat := if d.testBit k = true then ((rb q d (k + 1)).head?).getD 0 else k
def ltF (q d k : Nat) : Nat := if d.testBit k = true then (ar q (trF q d k) k).toNat else q
theorem trF_head {q d k : Nat} (hk : k < q) (b : d.testBit k = true) : (rb q d (k + 1)).head? = some (trF q d k) := by
  unfold trF
  rw [if_pos b]
  cases e : rb q d (k + 1) with
  | nil =>
    have : k ∈ rb q d (k + 1) := mem_rb.mpr ⟨hk, b⟩
    rw [e] at this
    exact absurd this List.not_mem_nil
  | cons j l => rfl
theorem trF_out {q d k : Nat} (b : d.testBit k = false) : trF q d k = k := by
  unfold trF
  rw [b]
  rfl
theorem trF_in {q d k : Nat} (hk : k < q) (b : d.testBit k = true) : trF q d k < q ∧ d.testBit (trF q d k) = true := by
  have e := trF_head hk b
  have : trF q d k ∈ rb q d (k + 1) := List.mem_of_mem_head? (by rw [e]; rfl)
  exact mem_rb.mp this
theorem trF_lt {q d k : Nat} (hk : k < q) : trF q d k < q := by
  cases b : d.testBit k with
  | false => rw [trF_out b]; exact hk
  | true => exact (trF_in hk b).1
theorem trF_bit {q d k : Nat} (hk : k < q) : d.testBit (trF q d k) = d.testBit k := by
  cases b : d.testBit k with
  | false => rw [trF_out b]; exact b
  | true => exact (trF_in hk b).2
theorem trF_last {q d k : Nat} (hk : k < q) : (cl q d (trF q d k)).getLast? = some k := by
  have hq : 0 < q := by omega
  cases b : d.testBit k with
  | false => rw [trF_out b]; exact cl_last_out hk b
  | true =>
    obtain ⟨hj, bj⟩ := trF_in hk b
    have eh := trF_head hk b
    generalize trF q d k = j at hj bj eh
    have hs := rb_sorted q d (k + 1)
    have least : ∀ x, x < q → d.testBit x = true → ar q (k + 1) j ≤ ar q (k + 1) x := fun x hx bx => by
      have mx : x ∈ rb q d (k + 1) := mem_rb.mpr ⟨hx, bx⟩
      cases e : rb q d (k + 1) with
      | nil => rw [e] at mx; exact absurd mx List.not_mem_nil
      | cons z l =>
        rw [e] at mx hs eh
        have ez : z = j := Option.some.inj eh
        subst ez
        rcases List.mem_cons.mp mx with rfl | mx
        · exact Int.le_refl _
        · exact Int.le_of_lt ((List.pairwise_cons.mp hs).1 x mx)
    refine (cl_last_in hj bj).mpr ⟨⟨hk, b⟩, fun x hx bx => ?_⟩
    have y1 := ar_from (q := q) (st := k + 1) (k := j) (x := x) hq
    have y2 := ar_from (q := q) (st := k + 1) (k := j) (x := k) hq
    rw [if_pos (least x hx bx)] at y1
    rw [if_pos (least k hk b)] at y2
    rw [y1, y2]
    have top : ar q (k + 1) k = q - 1 := by
      have := ar_next (q := q) (st := k) (k := k) (x := k) hq
      rw [if_neg (by omega), ar_self] at this
      omega
    have := ar_lt (q := q) (j := k + 1) (x := x) hq
    omega
theorem trF_iff {q d j k : Nat} (hj : j < q) (hk : k < q) : (cl q d j).getLast? = some k ↔ j = trF q d k :=
  ⟨fun e => tree_one hj (trF_lt hk) e (trF_last hk), fun e => by rw [e]; exact trF_last hk⟩
theorem ltF_in {q d k : Nat} (hq : 0 < q) (b : d.testBit k = true) : (ltF q d k : Int) = ar q (trF q d k) k := by
  unfold ltF
  rw [if_pos b]
  exact Int.toNat_of_nonneg (ar_nn hq)
theorem ltF_out {q d k : Nat} (b : d.testBit k = false) : ltF q d k = q := by
  unfold ltF
  rw [b]
  rfl
theorem ltF_le {q d k : Nat} (hq : 0 < q) : ltF q d k ≤ q := by
  cases b : d.testBit k with
  | false => rw [ltF_out b]; exact Nat.le_refl _
  | true =>
    have h1 := ltF_in hq b
    have h2 := ar_lt (q := q) (j := trF q d k) (x := k) hq
    omega
/-! ### a hand's bits, 0 or 1 each -/
def mk (q h : Nat) : List Nat := (List.range q).map fun k => (h.testBit k).toNat
theorem mk_len (q h : Nat) : (mk q h).length = q := by
  unfold mk
  rw [List.length_map, List.length_range]
theorem mk_get {q h k : Nat} (hk : k < q) : (mk q h)[k]? = some (h.testBit k).toNat := by
  unfold mk
  rw [List.getElem?_map, List.getElem?_range hk]
  rfl
theorem mk_succ (q h : Nat) : mk (q + 1) h = mk q h ++ [(h.testBit q).toNat] := by
  unfold mk
  rw [List.range_succ, List.map_append]
  rfl
theorem bit_nat (h k : Nat) : (h.testBit k).toNat = h / 2 ^ k % 2 := by
  rw [Nat.testBit_eq_decide_div_mod_eq]
  by_cases e : h / 2 ^ k % 2 = 1
  · rw [decide_eq_true e, e]; rfl
  · rw [decide_eq_false e]
    show 0 = _
    omega
theorem mk_of {L : List Nat} {q : Nat} (hl : L.length = q) (hb : ∀ x ∈ L, x < 2) : ∃ h, h < 2 ^ q ∧ L = mk q h := by
  refine ⟨fb ((List.range q).filter fun k => decide (L[k]? = some 1)), fb_lt fun k hk => List.mem_range.mp (List.mem_filter.mp hk).1, ?_⟩
  refine List.ext_getElem? fun i => ?_
  by_cases hi : i < q
  · rw [mk_get hi]
    have hi2 : i < L.length := by omega
    have hx := hb _ (List.getElem_mem hi2)
    rw [List.getElem?_eq_getElem hi2]
    congr 1
    unfold fb
    rw [fold_bit, Nat.zero_testBit, Bool.false_or]
    by_cases e : L[i] = 1
    · rw [decide_eq_true (List.mem_filter.mpr ⟨List.mem_range.mpr hi, decide_eq_true (by rw [List.getElem?_eq_getElem hi2, e])⟩), e]
      rfl
    · rw [decide_eq_false fun z => ?_]
      · show L[i] = 0
        omega
      · have z2 := of_decide_eq_true (List.mem_filter.mp z).2
        rw [List.getElem?_eq_getElem hi2] at z2
        exact e (Option.some.inj z2)
  · rw [List.getElem?_eq_none (by omega), List.getElem?_eq_none (by rw [mk_len]; omega)]
theorem mk_small {q h x : Nat} (hx : x ∈ mk q h) : x < 2 := by
  unfold mk at hx
  obtain ⟨k, _, rfl⟩ := List.mem_map.mp hx
  cases h.testBit k <;> decide
theorem xor_bit2 (a b k : Nat) : ((a.testBit k).toNat + (b.testBit k).toNat) % 2 = ((a ^^^ b).testBit k).toNat := by
  rw [Nat.testBit_xor]
  cases a.testBit k <;> cases b.testBit k <;> rfl
/-- one bit turned -/
theorem mk_cross {q h k : Nat} (hk : k < q) : (mk q h).take k ++ [1 - (h.testBit k).toNat] ++ (mk q h).drop (k + 1) = mk q (h ^^^ 2 ^ k) := by
  refine List.ext_getElem? fun i => ?_
  have l1 : ((mk q h).take k).length = k := by rw [List.length_take, mk_len]; omega
  by_cases hi : i < q
  · rw [mk_get hi, bit_xor]
    rcases Nat.lt_trichotomy i k with c | c | c
    · rw [List.append_assoc, List.getElem?_append_left (by omega), List.getElem?_take_of_lt c, mk_get hi]
      have : ¬ k = i := by omega
      simp [this]
    · subst c
      rw [List.append_assoc, List.getElem?_append_right (by omega), l1, Nat.sub_self]
      show some (1 - (h.testBit i).toNat) = _
      cases h.testBit i <;> simp
    · rw [List.getElem?_append_right (by rw [List.length_append, l1]; show k + 1 ≤ i; omega), List.length_append, l1, List.getElem?_drop]
      have e : k + 1 + (i - (k + [1 - (h.testBit k).toNat].length)) = i := by show k + 1 + (i - (k + 1)) = i; omega
      rw [e, mk_get hi]
      have : ¬ k = i := by omega
      simp [this]
  · have z : ((mk q h).take k ++ [1 - (h.testBit k).toNat] ++ (mk q h).drop (k + 1)).length ≤ i := by
      rw [List.length_append, List.length_append, l1, List.length_drop, mk_len]
      show k + 1 + (q - (k + 1)) ≤ i
      omega
    have z2 : (mk q (h ^^^ 2 ^ k)).length ≤ i := by
      rw [mk_len]
      omega
    rw [List.getElem?_eq_none z, List.getElem?_eq_none z2]
theorem half_step (h n : Nat) : h / 2 ^ n = 2 * (h / 2 ^ (n + 1)) + h / 2 ^ n % 2 := by
  rw [Nat.pow_succ, ← Nat.div_div_eq_div_mul]
  have := Nat.div_add_mod (h / 2 ^ n) 2
  omega
/-! ### rules -/
section
variable {X : Cx}
theorem call_reprA (gd : X.A.guards = some []) (hu : X.A.units + 64 < cLine) : CallR X (.builtin "repr") (fun xs H Q => (xs = [.non] ∧ Q (.str "None") H) ∨ ∃ a d, xs = [.ref a] ∧ Dp X.K H (.ref a) d ∧ d.showable = true ∧ d.hasDict = false ∧ d.depth < 60 ∧ d.shown.length ≤ sizeLine ∧ Q (.str d.shown) H) := by
  intro pins s σ H xs us Q I r h
  rcases h with ⟨rfl, q⟩ | h
  · obtain ⟨u, rfl, ru⟩ := vals1 r
    cases ru
    exact P.repr_of_none ⟨.str "None", H, I.tok _, ⟨_, rfl⟩, q⟩
  · exact call_reprD gd hu pins s σ H xs us Q I r h
theorem op_powW : OpR X (binaryOp .Pow) (rI (fun i j => 0 ≤ j ∧ (Builtin.Int.intBits i : Int) * j ≤ 2 ^ 27) fun i j => .int (i ^ j.toNat)) := opI fun _ _ _ _ _ _ _ hc q => pow_int hc.1 hc.2 q
end
end Bf
namespace Bf
open PySem PySem.Spec PyProof.Rows L2 LamX NdefX
/-! ### more rules -/
theorem yes {σ : L2.St} {H : Hp} {A B : Hp → Prop} (h : A H) : tYes σ H (fun b H3 => if b = true then A H3 else B H3) := by
  show if true = true then A H else B H
  exact (if_pos rfl).mpr h
theorem op_fdivNN {X : Cx} : OpR X (binaryOp .FloorDiv) (fun x y H Q => ∃ n m : Nat, x = .int (n : Int) ∧ y = .int (m : Int) ∧ 0 < m ∧ m < 1073741824 ∧ Q (.int ((n / m : Nat) : Int)) H) := by
  intro pins s σ H x y v u Q I rx ry h
  obtain ⟨n, m, rfl, rfl, hm, hm2, q⟩ := h
  refine op_fdiv pins s σ H _ _ v u Q I rx ry ⟨(n : Int), (m : Int), rfl, rfl, ⟨by omega, by omega⟩, ?_⟩
  rw [Int.natCast_ediv] at q
  exact q
theorem op_mulNN {X : Cx} : OpR X (binaryOp .Mult) (fun x y H Q => ∃ n m : Nat, x = .int (n : Int) ∧ y = .int (m : Int) ∧ n < 2 ^ 63 ∧ Q (.int ((n * m : Nat) : Int)) H) := by
  intro pins s σ H x y v u Q I rx ry h
  obtain ⟨n, m, rfl, rfl, hm, q⟩ := h
  refine op_mul pins s σ H _ _ v u Q I rx ry ⟨(n : Int), (m : Int), rfl, rfl, .inl ⟨by omega, by omega⟩, ?_⟩
  rw [Int.natCast_mul] at q
  exact q
/-! ### source=0 behind a star, by any names -/
theorem kbS3 {x1 x2 x3 : Str} {K : PySem.W.Frag} {x : Str} {st : Stmt} {f : Addr} {fd : FuncData} (F : FunS K x st f fd) (h : ∀ (kV doc pm : Value) (an : Option Addr) (cdv ct a b c d : Value), bindArgs (PySem.W.fnOf x x (defArgs st) (defBody st) (defScope st) .none kV doc pm an cdv ct) ⟨[a, b, c], [(("source" : Str), d)]⟩ = pure ([(x1, a), (x2, b), (x3, c), ("source", d)] : List (Str × Value))) :
    KBinds K fd [x1, x2, x3, "source"] ["source"] g3 g3 := by
  obtain ⟨oc, od, dV, kV, doc, pm, an, cdv, ct, osl, rfl, lk, hcd, hD, hK⟩ := F.ex
  rcases hD with ⟨_, rfl⟩ | ⟨z, _⟩
  · refine ⟨fun s us ws _ hl => ?_, fun r1 r2 => g3_rel r1 r2⟩
    obtain ⟨a, b, c, d, rfl, rfl⟩ := g3_len hl
    exact .of_eq (h kV doc pm an cdv ct a b c d)
  · exact absurd rfl z
def g4 {α : Type} (us ws : List α) : List α := match us, ws with
  | [a, b, c, d], [e] => [a, b, c, d, e]
  | _, _ => []
theorem g4_rel {vs zs : List V} {us ws : List Value} (r1 : Vals vs us) (r2 : Vals zs ws) : Vals (g4 vs zs) (g4 us ws) := by
  match r1, r2 with
  | .nil, _ => exact .nil
  | .cons _ .nil, _ => exact .nil
  | .cons _ (.cons _ .nil), _ => exact .nil
  | .cons _ (.cons _ (.cons _ .nil)), _ => exact .nil
  | .cons _ (.cons _ (.cons _ (.cons _ .nil))), .nil => exact .nil
  | .cons a (.cons b (.cons c (.cons d .nil))), .cons e .nil => exact .cons a (.cons b (.cons c (.cons d (.cons e .nil))))
  | .cons _ (.cons _ (.cons _ (.cons _ .nil))), .cons _ (.cons _ _) => exact .nil
  | .cons _ (.cons _ (.cons _ (.cons _ (.cons _ _)))), _ => exact .nil
theorem g4_len {us ws : List Value} (h : (g4 us ws).length = 5) : ∃ a b c d e, us = [a, b, c, d] ∧ ws = [e] := by
  match us, ws, h with
  | [a, b, c, d], [e], _ => exact ⟨a, b, c, d, e, rfl, rfl⟩
  | [], _, h => cases h
  | [_], _, h => cases h
  | [_, _], _, h => cases h
  | [_, _, _], _, h => cases h
  | [_, _, _, _], [], h => cases h
  | [_, _, _, _], _ :: _ :: _, h => cases h
  | _ :: _ :: _ :: _ :: _ :: _, _, h => cases h
theorem kbS4 {x1 x2 x3 x4 : Str} {K : PySem.W.Frag} {x : Str} {st : Stmt} {f : Addr} {fd : FuncData} (F : FunS K x st f fd) (h : ∀ (kV doc pm : Value) (an : Option Addr) (cdv ct a b c d e : Value), bindArgs (PySem.W.fnOf x x (defArgs st) (defBody st) (defScope st) .none kV doc pm an cdv ct) ⟨[a, b, c, d], [(("source" : Str), e)]⟩ = pure ([(x1, a), (x2, b), (x3, c), (x4, d), ("source", e)] : List (Str × Value))) :
    KBinds K fd [x1, x2, x3, x4, "source"] ["source"] g4 g4 := by
  obtain ⟨oc, od, dV, kV, doc, pm, an, cdv, ct, osl, rfl, lk, hcd, hD, hK⟩ := F.ex
  rcases hD with ⟨_, rfl⟩ | ⟨z, _⟩
  · refine ⟨fun s us ws _ hl => ?_, fun r1 r2 => g4_rel r1 r2⟩
    obtain ⟨a, b, c, d, e, rfl, rfl⟩ := g4_len hl
    exact .of_eq (h kV doc pm an cdv ct a b c d e)
  · exact absurd rfl z
end Bf
namespace Bf
open PySem PySem.Spec PyProof.Rows L2 LamX NdefX
/-! ### since when -/
def farF (q d j : Nat) : Nat := (ar q j (((rb q d j).getLast?).getD 0)).toNat
def dyF (q d j : Nat) : Nat := if d.testBit j = true then farF q d j else q
def snF (q m d i : Nat) : Nat := if i + 1 = m then i + farF q d (i % q) else i + dyF q d (i % q)
theorem far_spec {q d j : Nat} (hq : 0 < q) (hd : d < 2 ^ q) (h0 : d ≠ 0) : ∃ L, (rb q d j).getLast? = some L ∧ ar q j L = (farF q d j : Int) ∧ d.testBit L = true ∧ L < q ∧ ∀ x, d.testBit x = true → ar q j x ≤ (farF q d j : Int) := by
  have hne : rb q d j ≠ [] := fun e => by
    obtain ⟨i, hi⟩ := Nat.exists_testBit_of_ne_zero h0
    have : i ∈ rb q d j := mem_rb.mpr ⟨lt_of_bit hd hi, hi⟩
    rw [e] at this
    exact absurd this List.not_mem_nil
  have e1 := List.getLast?_eq_getLast hne
  have e2 : ar q j ((rb q d j).getLast hne) = (farF q d j : Int) := by
    unfold farF
    rw [e1]
    exact (Int.toNat_of_nonneg (ar_nn hq)).symm
  obtain ⟨m1, m2⟩ := (sorted_last (rb_sorted q d j)).mp e1
  refine ⟨_, e1, e2, (mem_rb.mp m1).2, (mem_rb.mp m1).1, fun x hx => ?_⟩
  rw [← e2]
  exact m2 x (mem_rb.mpr ⟨lt_of_bit hd hx, hx⟩)
theorem far_lt {q d j : Nat} (hq : 0 < q) : farF q d j < q := by
  have h1 := ar_lt (q := q) (j := j) (x := ((rb q d j).getLast?).getD 0) hq
  have h2 := ar_nn (q := q) (j := j) (x := ((rb q d j).getLast?).getD 0) hq
  unfold farF
  omega
theorem dy_le {q d j : Nat} (hq : 0 < q) : dyF q d j ≤ q := by
  unfold dyF
  split
  · exact Nat.le_of_lt (far_lt hq)
  · exact Nat.le_refl _
theorem sn_le {q m d i : Nat} (hq : 0 < q) : snF q m d i ≤ i + q := by
  unfold snF
  split
  · have := far_lt (q := q) (d := d) (j := i % q) hq
    omega
  · have := dy_le (q := q) (d := d) (j := i % q) hq
    omega
theorem far_uniq {q d j : Nat} {v : Int} (hq : 0 < q) (hd : d < 2 ^ q) (h0 : d ≠ 0) (h1 : ∃ x, d.testBit x = true ∧ v = ar q j x) (h2 : ∀ x, d.testBit x = true → ar q j x ≤ v) : v = (farF q d j : Int) := by
  obtain ⟨L, _, e2, b, _, top⟩ := far_spec (j := j) hq hd h0
  obtain ⟨x, bx, rfl⟩ := h1
  have := top x bx
  have := h2 L b
  omega
theorem ar_modl {q j x : Nat} : ar q (j % q) x = ar q j x := by
  unfold ar
  rw [Int.natCast_emod]
  rw [Int.sub_emod, Int.emod_emod_of_dvd _ (Int.dvd_refl _), ← Int.sub_emod]
theorem far_back {q i L : Nat} (hq : 0 < q) (hL : L < q) : (((i + q - 1 : Nat) : Int) - ar q L ((i + q - 1) % q)) = (i : Int) + ar q (i % q) L := by
  have h1 := ar_next (q := q) (st := L) (k := (i + q - 1) % q) (x := L) hq
  rw [ar_self] at h1
  have nn := ar_nn (q := q) (j := L) (x := (i + q - 1) % q) hq
  rw [if_neg (by omega)] at h1
  have e : ((i + q - 1) % q + 1) % q = i % q := by
    rw [Nat.mod_add_mod, show i + q - 1 + 1 = i + q by omega, Nat.add_mod_right]
  have h2 : ar q ((i + q - 1) % q + 1) L = ar q (i % q) L := by rw [← ar_modl, e]
  rw [← h2, h1]
  omega
theorem mk_set {q h k : Nat} (hk : k < q) : (mk q h).set k (1 - (h.testBit k).toNat) = mk q (h ^^^ 2 ^ k) := by
  rw [← mk_cross hk, List.set_eq_take_append_cons_drop, if_pos (by rw [mk_len]; exact hk), List.append_assoc]
  rfl
theorem nv_set (ks : List Nat) (k v : Nat) : (nv ks).set k (.int (v : Int)) = nv (ks.set k v) := by
  unfold nv
  rw [List.map_set]
theorem no_bits {q d : Nat} (hd : d < 2 ^ q) (h : ∀ k, k < q → d.testBit k = false) : d = 0 := by
  refine Nat.eq_of_testBit_eq fun i => ?_
  rw [Nat.zero_testBit]
  cases e : d.testBit i with
  | false => rfl
  | true =>
    have := h i (lt_of_bit hd e)
    rw [e] at this
    cases this
theorem in_mk {q d : Nat} (hd : d < 2 ^ q) : inV (.int 1) (nv (mk q d)) = decide (d ≠ 0) := by
  by_cases h0 : d = 0
  · subst h0
    have : inV (.int 1) (nv (mk q 0)) = false := by
      unfold inV nv mk
      rw [List.any_map, List.any_map, List.any_eq_false]
      intro x _
      show ¬ eqV (.int (((Nat.testBit 0 x).toNat : Nat) : Int)) (.int 1) = true
      rw [Nat.zero_testBit]
      decide
    rw [this]
    rfl
  · have : inV (.int 1) (nv (mk q d)) = true := by
      obtain ⟨i, hi⟩ := Nat.exists_testBit_of_ne_zero h0
      unfold inV nv mk
      rw [List.any_map, List.any_map, List.any_eq_true]
      refine ⟨i, List.mem_range.mpr (lt_of_bit hd hi), ?_⟩
      show eqV (.int (((Nat.testBit d i).toNat : Nat) : Int)) (.int 1) = true
      rw [hi]
      rfl
    rw [this]
    exact (decide_eq_true h0).symm
theorem flat_nv (ks : List Nat) : (nv ks).all flatV = true := by
  unfold nv
  rw [List.all_map, List.all_eq_true]
  intro x _
  rfl
end Bf
namespace Bf
open PySem PySem.Spec PyProof.Rows L2 LamX NdefX
/-! ### what is heard, and first heard -/
theorem ar_add {q i e : Nat} (he : e < q) : ar q (i % q) ((i + e) % q) = (e : Int) := by
  have h := ar_at (q := q) (i % q) he
  rw [Nat.mod_add_mod] at h
  exact h
theorem arc_to {q j k : Nat} (hj : j < q) (hk : k < q) : ((j : Int) + ar q j k) % (q : Int) = k := by
  obtain ⟨i, hi, rfl⟩ := at_of j hk
  rw [ar_at j hi]
  have : ((j : Int) + (i : Int)) % (q : Int) = ((((j + i) % q : Nat)) : Int) := by
    rw [Int.natCast_emod, Int.natCast_add]
  exact this
/-- the letter heard at a beat by a hand of this set -/
def duF (q m d t : Nat) : Option Nat := if t < ltF q d (t % q) then none else some (min (t - ltF q d (t % q)) (m - 1))
theorem tree_mod {q d t : Nat} (hq : 0 < q) (b : d.testBit (t % q) = true) (h : ¬ t < ltF q d (t % q)) : (t - ltF q d (t % q)) % q = trF q d (t % q) := by
  have hk : t % q < q := Nat.mod_lt _ hq
  have h1 := ltF_in hq b
  have hj := trF_lt (d := d) hk
  generalize trF q d (t % q) = j at *
  generalize hl : ltF q d (t % q) = l at *
  -- t ≡ j + l
  have h2 := arc_to hj hk
  rw [← h1] at h2
  have h3 : (j + l) % q = t % q := by
    have : (((j + l) % q : Nat) : Int) = ((t % q : Nat) : Int) := by rw [Int.natCast_emod, Int.natCast_add]; exact h2
    exact Int.ofNat.inj this
  obtain ⟨c, hc⟩ := Nat.exists_eq_add_of_le (Nat.le_of_not_lt h)
  subst hc
  rw [Nat.add_sub_cancel_left]
  refine turn_inj (by' := l) (Nat.mod_lt _ hq) hj ?_
  rw [Nat.mod_add_mod, h3, Nat.add_comm c l]
/-- the last bit crossed on a way of a tree of the set is the farthest -/
theorem far_last {q d k : Nat} (hq : 0 < q) (hd : d < 2 ^ q) (hk : k < q) (b : d.testBit k = true) : farF q d (trF q d k) = ltF q d k := by
  have hb := (trF_in hk b).2
  have hj := (trF_in hk b).1
  have h0 : d ≠ 0 := fun e => by rw [e, Nat.zero_testBit] at b; cases b
  have e1 := trF_last (d := d) hk
  rw [cl_in hj hb] at e1
  obtain ⟨L, e2, e3, _⟩ := far_spec (j := trF q d k) hq hd h0
  rw [e1] at e2
  have : k = L := Option.some.inj e2
  subst this
  have := ltF_in hq b
  omega
/-- what comes first comes by its own beat -/
theorem due_at {q m d i : Nat} (hq : 0 < q) (hd : d < 2 ^ q) (h0 : d ≠ 0) (hi : i < m) : duF q m d (snF q m d i) = some i := by
  have hj : i % q < q := Nat.mod_lt _ hq
  obtain ⟨L, e2, e3, bL, hL, top⟩ := far_spec (j := i % q) hq hd h0
  have fl := far_lt (q := q) (d := d) (j := i % q) hq
  have eL : (i + farF q d (i % q)) % q = L := by
    have h2 := arc_to hj hL
    rw [e3] at h2
    have : (((i % q + farF q d (i % q)) % q : Nat) : Int) = (L : Int) := by rw [Int.natCast_emod, Int.natCast_add]; exact h2
    have := Int.ofNat.inj this
    rw [Nat.mod_add_mod] at this
    exact this
  unfold snF
  by_cases hl : i + 1 = m
  · rw [if_pos hl]
    unfold duF
    rw [eL]
    have hle : ltF q d L ≤ farF q d (i % q) := by
      have h1 := ltF_in hq bL
      obtain ⟨hj', bj'⟩ := trF_in hL bL
      have h2 := ar_from (q := q) (st := i % q) (k := trF q d L) (x := L) hq
      have h3 := top _ bj'
      rw [← e3] at h3
      rw [if_pos h3] at h2
      have := ar_nn (q := q) (j := i % q) (x := trF q d L) hq
      omega
    rw [if_neg (by omega)]
    congr 1
    omega
  · rw [if_neg hl]
    unfold dyF
    cases b : d.testBit (i % q) with
    | true =>
      rw [if_pos rfl]
      unfold duF
      rw [eL]
      have e4 : i % q = trF q d L := (trF_iff hj hL).mp (by rw [cl_in hj b]; exact e2)
      have e5 : ltF q d L = farF q d (i % q) := by rw [e4]; exact (far_last hq hd hL bL).symm
      rw [e5, if_neg (by omega)]
      congr 1
      omega
    | false =>
      rw [if_neg (by decide)]
      unfold duF
      rw [Nat.add_mod_right, ltF_out b, if_neg (by omega)]
      congr 1
      omega
/-- all bits of the set are crossed by then -/
theorem bits_by {q d st k x : Nat} (hq : 0 < q) (hk : k < q) (b : d.testBit k = true) (hst : (ltF q d k : Int) ≤ ar q st k) (hx : x < q) (bx : d.testBit x = true) : ar q st x ≤ ar q st k := by
  refine Classical.byContradiction fun hc => ?_
  obtain ⟨hj, bj⟩ := trF_in hk b
  have h1 := ltF_in hq b
  have eh := trF_head hk b
  have least : ar q (k + 1) (trF q d k) ≤ ar q (k + 1) x := by
    have mx : x ∈ rb q d (k + 1) := mem_rb.mpr ⟨hx, bx⟩
    have hs := rb_sorted q d (k + 1)
    cases e : rb q d (k + 1) with
    | nil => rw [e] at mx; exact absurd mx List.not_mem_nil
    | cons z l =>
      rw [e] at mx hs eh
      have ez : z = trF q d k := Option.some.inj eh
      rw [← ez]
      rcases List.mem_cons.mp mx with rfl | mx
      · exact Int.le_refl _
      · exact Int.le_of_lt ((List.pairwise_cons.mp hs).1 x mx)
  have n1 := ar_next (q := q) (st := st) (k := k) (x := x) hq
  have n2 := ar_next (q := q) (st := st) (k := k) (x := trF q d k) hq
  have n3 := ar_from (q := q) (st := st) (k := trF q d k) (x := k) hq
  have a1 := ar_lt (q := q) (j := st) (x := x) hq
  have a2 := ar_nn (q := q) (j := st) (x := trF q d k) hq
  have a3 := ar_lt (q := q) (j := st) (x := trF q d k) hq
  rw [if_pos (by omega)] at n1
  by_cases c : ar q st (trF q d k) ≤ ar q st k
  · rw [if_neg (by omega)] at n2
    omega
  · rw [if_neg c] at n3
    omega
/-- what is heard was heard by then, and who tells it had it ahead -/
theorem heard_by {q m d t i : Nat} (hq : 0 < q) (hm : 0 < m) (hd : d < 2 ^ q) (h0 : d ≠ 0) (h : duF q m d t = some i) : i < m ∧ snF q m d i ≤ t ∧ (d ^^^ 2 ^ (t % q) = 0 ∨ snF q m (d ^^^ 2 ^ (t % q)) i < t) := by
  have hk : t % q < q := Nat.mod_lt _ hq
  unfold duF at h
  split at h
  · cases h
  rename_i hlt
  have ei := Option.some.inj h
  have hd' : d ^^^ 2 ^ (t % q) < 2 ^ q := Nat.xor_lt_two_pow hd (Nat.pow_lt_pow_right (by decide) hk)
  have far' : ∀ st e, (∀ x, (d ^^^ 2 ^ (t % q)).testBit x = true → ar q st x < e) → d ^^^ 2 ^ (t % q) ≠ 0 → (farF q (d ^^^ 2 ^ (t % q)) st : Int) < e := fun st e hx hne => by
    obtain ⟨L, _, e3, bL, _, _⟩ := far_spec (j := st) hq hd' hne
    rw [← e3]
    exact hx L bL
  by_cases hlast : t - ltF q d (t % q) < m - 1
  · have ei2 : i = t - ltF q d (t % q) := by omega
    refine ⟨by omega, ?_⟩
    unfold snF
    rw [if_neg (by omega), if_neg (by omega)]
    cases b : d.testBit (t % q) with
    | true =>
      have em : i % q = trF q d (t % q) := by rw [ei2]; exact tree_mod hq b hlt
      obtain ⟨hj, bj⟩ := trF_in hk b
      have fl := far_last hq hd hk b
      unfold dyF
      rw [em, if_pos bj, fl]
      refine ⟨by omega, ?_⟩
      by_cases z : d ^^^ 2 ^ (t % q) = 0
      · exact .inl z
      refine .inr ?_
      have l1 := ltF_in hq b
      have hlt2 := far' (trF q d (t % q)) (ltF q d (t % q)) (fun x hx => ?_) z
      · have bj' : (d ^^^ 2 ^ (t % q)).testBit (trF q d (t % q)) = true := by
          rw [bit_xor, bj]
          by_cases e : t % q = trF q d (t % q)
          · exfalso
            -- the only bit
            have e0 : ltF q d (t % q) = 0 := by
              rw [← e, ar_self] at l1
              omega
            rw [e0] at hlt2
            omega
          · rw [decide_eq_false e]
            rfl
        rw [if_pos bj']
        omega
      · rw [bit_xor] at hx
        have hne : t % q ≠ x := fun e => by
          subst e
          rw [b, decide_eq_true rfl] at hx
          cases hx
        rw [decide_eq_false hne, Bool.xor_false] at hx
        have hxq := lt_of_bit hd hx
        obtain ⟨L, _, e3, _, _, top⟩ := far_spec (j := trF q d (t % q)) hq hd h0
        have h1 := top x hx
        have h2 : ar q (trF q d (t % q)) x ≠ ar q (trF q d (t % q)) (t % q) := fun e => hne (ar_inj hxq hk e).symm
        omega
    | false =>
      have l1 := ltF_out (q := q) b
      rw [l1] at hlt ei2
      have em : i % q = t % q := by
        rw [ei2]
        obtain ⟨c, hc⟩ := Nat.exists_eq_add_of_le (Nat.le_of_not_lt hlt)
        rw [hc, Nat.add_sub_cancel_left, Nat.add_mod_left]
      unfold dyF
      rw [em, b, if_neg (by decide)]
      refine ⟨by omega, .inr ?_⟩
      have bj' : (d ^^^ 2 ^ (t % q)).testBit (t % q) = true := by
        rw [bit_xor, b, decide_eq_true rfl]
        rfl
      rw [if_pos bj']
      have := far_lt (q := q) (d := d ^^^ 2 ^ (t % q)) (j := t % q) hq
      omega
  · have ei2 : i = m - 1 := by omega
    refine ⟨by omega, ?_⟩
    unfold snF
    rw [if_pos (by omega), if_pos (by omega)]
    have f1 := far_lt (q := q) (d := d) (j := i % q) hq
    have f2 := far_lt (q := q) (d := d ^^^ 2 ^ (t % q)) (j := i % q) hq
    by_cases hbig : i + q ≤ t
    · exact ⟨by omega, .inr (by omega)⟩
    cases b : d.testBit (t % q) with
    | false =>
      have l1 := ltF_out (q := q) b
      omega
    | true =>
      obtain ⟨e, he⟩ := Nat.exists_eq_add_of_le (show i ≤ t by omega)
      have heq : e < q := by omega
      have ea : ar q (i % q) (t % q) = (e : Int) := by rw [he]; exact ar_add heq
      have all : ∀ x, d.testBit x = true → ar q (i % q) x ≤ (e : Int) := fun x bx => by
        rw [← ea]
        exact bits_by hq hk b (by rw [ea]; omega) (lt_of_bit hd bx) bx
      constructor
      · obtain ⟨L, _, e3, bL, _, _⟩ := far_spec (j := i % q) hq hd h0
        have := all L bL
        omega
      · by_cases z : d ^^^ 2 ^ (t % q) = 0
        · exact .inl z
        refine .inr ?_
        have := far' (i % q) e (fun x hx => ?_) z
        · omega
        · rw [bit_xor] at hx
          have hne : t % q ≠ x := fun e => by
            subst e
            rw [b, decide_eq_true rfl] at hx
            cases hx
          rw [decide_eq_false hne, Bool.xor_false] at hx
          have h1 := all x hx
          have h2 : ar q (i % q) x ≠ ar q (i % q) (t % q) := fun e => hne (ar_inj (lt_of_bit hd hx) hk e).symm
          omega
end Bf
namespace Bf
open PySem PySem.Spec PyProof.Rows L2 LamX NdefX
/-! ### None, truths and numbers as data -/
def sd : V → PyData
  | .non => .none
  | .bl b => .bool b
  | .int n => .int n
  | _ => .none
def SmV (v : V) : Prop := v = .non ∨ (∃ b, v = .bl b) ∨ ∃ n : Nat, n < 2 ^ 61 ∧ v = .int (n : Int)
theorem SmV.non : SmV .non := .inl rfl
theorem SmV.bl (b : Bool) : SmV (.bl b) := .inr (.inl ⟨b, rfl⟩)
theorem SmV.int {n : Nat} (h : n < 2 ^ 61) : SmV (.int (n : Int)) := .inr (.inr ⟨n, h, rfl⟩)
theorem SmV.dp {K : PySem.W.Frag} {H : Hp} {v : V} (h : SmV v) : Dp K H v (sd v) := by
  rcases h with rfl | ⟨b, rfl⟩ | ⟨n, _, rfl⟩
  · exact .non
  · exact .bl _
  · exact .int _
theorem sm_dp {K : PySem.W.Frag} {H : Hp} : ∀ vs : List V, (∀ v ∈ vs, SmV v) → DpAll K H vs (vs.map sd)
  | [], _ => .nil
  | v :: vs, h => .cons (h v List.mem_cons_self).dp (sm_dp vs fun x hx => h x (List.mem_cons_of_mem _ hx))
theorem sm_show : ∀ vs : List V, (∀ v ∈ vs, SmV v) → PyData.showableAll (vs.map sd) = true ∧ PyData.hasDictAll (vs.map sd) = false ∧ PyData.depthAll (vs.map sd) ≤ 1 ∧ PyData.leavesShortAll 64 (vs.map sd) = true ∧ PyData.weightAll (vs.map sd) ≤ 63 * vs.length
  | [], _ => ⟨rfl, rfl, by simp [PyData.depthAll], rfl, Nat.le_refl _⟩
  | v :: vs, h => by
    obtain ⟨i1, i2, i3, i4, i5⟩ := sm_show vs fun x hx => h x (List.mem_cons_of_mem _ hx)
    have hv : PyData.showable (sd v) = true ∧ PyData.hasDict (sd v) = false ∧ PyData.depth (sd v) ≤ 1 ∧ PyData.leavesShort 64 (sd v) = true ∧ PyData.weight (sd v) ≤ 62 := by
      rcases h v List.mem_cons_self with rfl | ⟨b, rfl⟩ | ⟨n, hn, rfl⟩
      · exact ⟨rfl, rfl, by decide, by decide, by decide⟩
      · cases b
        · exact ⟨rfl, rfl, by decide, by decide, by decide⟩
        · exact ⟨rfl, rfl, by decide, by decide, by decide⟩
      · have z1 := nd_show [n] (fun x hx => by rw [List.mem_singleton.mp hx]; exact hn)
        have z4 := nd_leaves [n] (fun x hx => by rw [List.mem_singleton.mp hx]; exact hn)
        have z5 := nd_weight [n] (fun x hx => by rw [List.mem_singleton.mp hx]; exact hn)
        have w1 : (PyData.showable (.int (n : Int)) && true) = true := z1
        have w4 : (PyData.leavesShort 64 (.int (n : Int)) && true) = true := z4
        have w5 : PyData.weight (.int (n : Int)) + 1 + 0 ≤ 63 * 1 := z5
        rw [Bool.and_true] at w1 w4
        exact ⟨w1, rfl, by show PyData.depth (.int (n : Int)) ≤ 1; simp [PyData.depth], w4, by show PyData.weight (.int (n : Int)) ≤ 62; omega⟩
    obtain ⟨h1, h2, h3, h4, h5⟩ := hv
    refine ⟨?_, ?_, ?_, ?_, ?_⟩
    · show (PyData.showable (sd v) && PyData.showableAll (vs.map sd)) = true
      rw [h1, i1]; rfl
    · show (PyData.hasDict (sd v) || PyData.hasDictAll (vs.map sd)) = false
      rw [h2, i2]; rfl
    · show max (PyData.depth (sd v)) (PyData.depthAll (vs.map sd)) ≤ 1
      omega
    · show (PyData.leavesShort 64 (sd v) && PyData.leavesShortAll 64 (vs.map sd)) = true
      rw [h4, i4]; rfl
    · show PyData.weight (sd v) + 1 + PyData.weightAll (vs.map sd) ≤ 63 * (vs.length + 1)
      omega
theorem sm_rep {vs : List V} (h : ∀ v ∈ vs, SmV v) (hl : vs.length ≤ 1000) : (PyData.list (vs.map sd)).showable = true ∧ (PyData.list (vs.map sd)).hasDict = false ∧ (PyData.list (vs.map sd)).depth < 60 ∧ (PyData.list (vs.map sd)).shown.length ≤ sizeLine := by
  obtain ⟨i1, i2, i3, i4, i5⟩ := sm_show vs h
  refine ⟨i1, i2, ?_, ?_⟩
  · show PyData.depthAll (vs.map sd) + 1 < 60
    omega
  · have h1 := PyData.shown_le 64 (by decide) (.list (vs.map sd)) i4
    have h2 : PyData.weight (.list (vs.map sd)) ≤ 63 * vs.length := i5
    rw [sizeLine_eq]
    have h3 : (64 + 2) * PyData.weight (.list (vs.map sd)) ≤ 66 * (63 * 1000) := Nat.mul_le_mul (by decide) (by omega)
    omega
/-- repr of None or a number -/
theorem call_reprO {X : Cx} : CallR X (.builtin "repr") (fun xs H Q => (xs = [.non] ∧ Q (.str "None") H) ∨ ∃ i : Int, xs = [.int i] ∧ i.natAbs.log2 < 1920 ∧ Q (.str (toString i)) H) := by
  intro pins s σ H xs us Q I r h
  rcases h with ⟨rfl, q⟩ | h
  · obtain ⟨u, rfl, ru⟩ := vals1 r
    cases ru
    exact P.repr_of_none ⟨.str "None", H, I.tok _, ⟨_, rfl⟩, q⟩
  · exact call_reprN pins s σ H xs us Q I r h
theorem rd_ifV {tt : TT} {ta tb : TE} {σ : L2.St} {H : Hp} {Q : VK} (b : Bool) (v : V) (h0 : ∀ Q' : Bool → Hp → Prop, Q' b H → tt σ H Q') (h1 : b = true → Gives ta σ H v) (h2 : b = false → Gives tb σ H v) (h : Q v H) : tIf tt ta tb σ H Q := by
  refine h0 _ ?_
  cases b with
  | true => exact iteT (h1 rfl _ h)
  | false => exact iteF (h2 rfl _ h)
theorem rd_ifF {tt : TT} {A B : TS} {D : Ends} {σ : L2.St} {H : Hp} (h0 : ∀ Q' : Bool → Hp → Prop, Q' false H → tt σ H Q') (h : B D σ H) : tIfS tt A B D σ H := h0 _ (iteF h)
/-! ### the last beat -/
def lbF (q m d : Nat) : Nat := if m = 1 then snF q m d 0 else m - 2 + q
theorem lb_top {q m d i : Nat} (hq : 0 < q) (hi : i < m) : snF q m d i ≤ lbF q m d := by
  unfold lbF
  by_cases e : m = 1
  · rw [if_pos e]
    have : i = 0 := by omega
    subst this
    exact Nat.le_refl _
  · rw [if_neg e]
    unfold snF
    have h1 := far_lt (q := q) (d := d) (j := i % q) hq
    have h2 := dy_le (q := q) (d := d) (j := i % q) hq
    split <;> omega
theorem lb_is {q m d : Nat} (hq : 0 < q) (hm : 0 < m) (hd : d < 2 ^ q) (h0 : d ≠ 0) : ∃ i, i < m ∧ snF q m d i = lbF q m d := by
  unfold lbF
  by_cases e : m = 1
  · rw [if_pos e]
    exact ⟨0, by omega, rfl⟩
  · rw [if_neg e]
    cases b : d.testBit ((m - 2) % q) with
    | false =>
      refine ⟨m - 2, by omega, ?_⟩
      unfold snF dyF
      rw [if_neg (by omega), b]
      rfl
    | true =>
      refine ⟨m - 1, by omega, ?_⟩
      unfold snF
      rw [if_pos (by omega)]
      obtain ⟨L, _, e3, _, _, top⟩ := far_spec (j := (m - 1) % q) hq hd h0
      have h1 := top _ b
      have h2 := far_lt (q := q) (d := d) (j := (m - 1) % q) hq
      have e4 : ar q ((m - 1) % q) ((m - 2) % q) = (q : Int) - 1 := by
        have h3 := ar_add (q := q) (i := m - 1) (e := q - 1) (by omega)
        have e5 : (m - 1 + (q - 1)) % q = (m - 2) % q := by
          rw [show m - 1 + (q - 1) = m - 2 + q by omega, Nat.add_mod_right]
        rw [e5] at h3
        omega
      omega
theorem lb_one {q d : Nat} (hq : 0 < q) (hd : d < 2 ^ q) (h0 : d ≠ 0) : lbF q 1 d ≤ q - 1 ∧ (d.testBit (q - 1) = true → lbF q 1 d = q - 1) := by
  unfold lbF snF
  rw [if_pos rfl, if_pos rfl, Nat.zero_mod, Nat.zero_add]
  have h2 := far_lt (q := q) (d := d) (j := 0) hq
  refine ⟨by omega, fun b => ?_⟩
  obtain ⟨L, _, e3, _, _, top⟩ := far_spec (j := 0) hq hd h0
  have h1 := top _ b
  have h3 := ar_at (q := q) 0 (i := q - 1) (by omega)
  rw [Nat.zero_add, Nat.mod_eq_of_lt (by omega)] at h3
  omega
end Bf
namespace Bf
open PySem PySem.Spec PyProof.Rows L2 LamX NdefX
/-! ### each letter once -/
theorem heard_once {q m d t i : Nat} (hq : 0 < q) (hm : 0 < m) (hd : d < 2 ^ q) (h0 : d ≠ 0) (hi : i + 1 < m) (h : duF q m d t = some i) : snF q m d i = t := by
  have hk : t % q < q := Nat.mod_lt _ hq
  unfold duF at h
  split at h
  · cases h
  rename_i hlt
  have ei := Option.some.inj h
  have ei2 : i = t - ltF q d (t % q) := by omega
  unfold snF
  rw [if_neg (by omega)]
  cases b : d.testBit (t % q) with
  | true =>
    have em : i % q = trF q d (t % q) := by rw [ei2]; exact tree_mod hq b hlt
    obtain ⟨hj, bj⟩ := trF_in hk b
    have fl := far_last hq hd hk b
    unfold dyF
    rw [em, if_pos bj, fl]
    omega
  | false =>
    have l1 := ltF_out (q := q) b
    rw [l1] at hlt ei2
    have em : i % q = t % q := by
      rw [ei2]
      obtain ⟨c, hc⟩ := Nat.exists_eq_add_of_le (Nat.le_of_not_lt hlt)
      rw [hc, Nat.add_sub_cancel_left, Nat.add_mod_left]
    unfold dyF
    rw [em, b, if_neg (by decide)]
    omega
/-- the beats of a stretch at which a letter is heard -/
def onL (q m d i lo n : Nat) : List Nat := ((List.range n).map fun r => lo + r).filter fun t => decide (duF q m d t = some i)
theorem onL_succ (q m d i lo n : Nat) : onL q m d i lo (n + 1) = onL q m d i lo n ++ (if duF q m d (lo + n) = some i then [lo + n] else []) := by
  unfold onL
  rw [List.range_succ, List.map_append, List.filter_append]
  by_cases e : duF q m d (lo + n) = some i <;> simp [e]
theorem onL_len (q m d i lo n : Nat) : (onL q m d i lo n).length ≤ n := by
  unfold onL
  have := List.length_filter_le (fun t => decide (duF q m d t = some i)) ((List.range n).map fun r => lo + r)
  rw [List.length_map, List.length_range] at this
  exact this
theorem onL_mem {q m d i lo n t : Nat} : t ∈ onL q m d i lo n ↔ (lo ≤ t ∧ t < lo + n) ∧ duF q m d t = some i := by
  unfold onL
  rw [List.mem_filter, List.mem_map]
  constructor
  · rintro ⟨⟨r, hr, rfl⟩, hp⟩
    have := List.mem_range.mp hr
    exact ⟨⟨by omega, by omega⟩, of_decide_eq_true hp⟩
  · rintro ⟨⟨h1, h2⟩, hp⟩
    exact ⟨⟨t - lo, List.mem_range.mpr (by omega), by omega⟩, decide_eq_true hp⟩
theorem onL_sorted (q m d i lo n : Nat) : (onL q m d i lo n).Pairwise (fun (a b : Nat) => (a : Int) < (b : Int)) := by
  unfold onL
  refine List.Pairwise.filter _ ?_
  rw [List.pairwise_map]
  exact List.pairwise_lt_range.imp fun {a b} h => by omega
theorem on_one {q m d i : Nat} (hq : 0 < q) (hd : d < 2 ^ q) (h0 : d ≠ 0) (hi : i + 1 < m) : onL q m d i (i - 2) (i + q + 2 - (i - 2)) = [snF q m d i] := by
  refine uniq_sorted (key := fun n : Nat => (n : Int)) (onL_sorted ..) (List.pairwise_singleton _ _) fun x => ?_
  rw [onL_mem, List.mem_singleton]
  constructor
  · exact fun h => (heard_once hq (by omega) hd h0 hi h.2).symm
  · rintro rfl
    have h1 := due_at (m := m) hq hd h0 (show i < m by omega)
    have h2 := sn_le (q := q) (m := m) (d := d) (i := i) hq
    have h3 : i ≤ snF q m d i := by
      unfold snF
      split <;> omega
    exact ⟨⟨by omega, by omega⟩, h1⟩
theorem due_late {q m d t : Nat} (hq : 0 < q) (hm : 0 < m) (ht : m - 1 + q ≤ t) : duF q m d t = some (m - 1) := by
  unfold duF
  have := ltF_le (q := q) (d := d) (k := t % q) hq
  rw [if_neg (by omega)]
  congr 1
  omega
theorem on_last {q m d i : Nat} (hq : 0 < q) (hd : d < 2 ^ q) (h0 : d ≠ 0) (hi : i + 1 = m) : ∃ l, onL q m d i (i - 2) (i + q + 2 - (i - 2)) = snF q m d i :: l := by
  have h1 := due_at (m := m) hq hd h0 (show i < m by omega)
  have h2 := sn_le (q := q) (m := m) (d := d) (i := i) hq
  have h3 : i ≤ snF q m d i := by
    unfold snF
    split <;> omega
  have hmem : snF q m d i ∈ onL q m d i (i - 2) (i + q + 2 - (i - 2)) := onL_mem.mpr ⟨⟨by omega, by omega⟩, h1⟩
  have hs := onL_sorted q m d i (i - 2) (i + q + 2 - (i - 2))
  cases e : onL q m d i (i - 2) (i + q + 2 - (i - 2)) with
  | nil => rw [e] at hmem; exact absurd hmem List.not_mem_nil
  | cons a l =>
    have ha : a ∈ onL q m d i (i - 2) (i + q + 2 - (i - 2)) := by rw [e]; exact List.mem_cons_self
    have hle := (heard_by hq (by omega) hd h0 (onL_mem.mp ha).2).2.1
    rw [e] at hmem hs
    rcases List.mem_cons.mp hmem with e1 | e1
    · exact ⟨l, by rw [e1]⟩
    · have := (List.pairwise_cons.mp hs).1 _ e1
      omega
theorem on_late {q m d i : Nat} (hq : 0 < q) (hi : i + 1 = m) : (onL q m d i (i - 2) (i + q + 2 - (i - 2))).filter (fun t => decide (i + q ≤ t)) = [i + q, i + q + 1] := by
  refine uniq_sorted (key := fun n : Nat => (n : Int)) (List.Pairwise.filter _ (onL_sorted ..)) (by simp) fun x => ?_
  rw [List.mem_filter, onL_mem]
  have em : m - 1 = i := by omega
  constructor
  · rintro ⟨⟨⟨h1, h2⟩, _⟩, h3⟩
    have := of_decide_eq_true h3
    have : x = i + q ∨ x = i + q + 1 := by omega
    rcases this with rfl | rfl <;> simp
  · intro h
    have : x = i + q ∨ x = i + q + 1 := by simpa using h
    have hd2 := due_late (q := q) (m := m) (d := d) (t := x) hq (by omega) (by omega)
    rw [em] at hd2
    exact ⟨⟨⟨by omega, by omega⟩, hd2⟩, decide_eq_true (by omega)⟩
end Bf
namespace Bf
open PySem PySem.Spec PyProof.Rows L2
/-! ### ways grow -/
theorem tp_bit {q d j n : Nat} (hj : j < q) (hn : n < q) : tp q (d ^^^ 2 ^ j) j n = tp q d j n := by
  unfold tp
  refine List.filter_congr fun x hx => ?_
  obtain ⟨i, hi, rfl⟩ := List.mem_map.mp hx
  have hi := List.mem_range.mp hi
  have ea := ar_at (q := q) (i := 1 + i) j (by omega)
  have hne : ¬ j = (j + (1 + i)) % q := fun z => by
    rw [← z, ar_self] at ea
    omega
  rw [bit_xor, decide_eq_false hne, Bool.xor_false]
theorem grow {q d j k : Nat} (hj : j < q) (hk : k < q) (hd : d < 2 ^ q) (hr : Hr q d j k) : (d = 0 → k = j ∧ cl q (d ^^^ 2 ^ k) j = [k]) ∧ (d ≠ 0 → cl q (d ^^^ 2 ^ k) j = cl q d j ++ [k]) := by
  have hq : 0 < q := by omega
  rcases (hr_iff hj hk hd).mp hr with ⟨rfl, h⟩ | ⟨b, hne, hlt⟩
  · constructor
    · intro e
      subst e
      refine ⟨rfl, ?_⟩
      have b1 : (0 ^^^ 2 ^ k).testBit k = true := by rw [bit_xor, Nat.zero_testBit, decide_eq_true rfl]; rfl
      have e1 : tp q (0 ^^^ 2 ^ k) k (q - 1) = tp q 0 k (q - 1) := tp_bit hj (by omega)
      have e2 : tp q 0 k (q - 1) = [] := by
        unfold tp
        simp
      unfold cl
      rw [b1, e1, e2]
      rfl
    · intro e
      have b : d.testBit k = true := h.resolve_left e
      have b1 : (d ^^^ 2 ^ k).testBit k = false := by rw [bit_xor, b, decide_eq_true rfl]; rfl
      have e1 : tp q (d ^^^ 2 ^ k) k (q - 1) = tp q d k (q - 1) := tp_bit hj (by omega)
      unfold cl
      rw [b1, b, e1]
      simp
  · have e0 : d ≠ 0 := fun z => by
      rw [z, Nat.zero_testBit] at b
      cases b
    refine ⟨fun z => absurd z e0, fun _ => ?_⟩
    have hkj : ¬ k = j := hne
    have b1 : (d ^^^ 2 ^ k).testBit j = true := by rw [bit_xor, b, decide_eq_false hkj]; rfl
    have bk : d.testBit k = false := by
      cases z : d.testBit k with
      | false => rfl
      | true => exact absurd (hlt k z) (Int.lt_irrefl _)
    rw [cl_in hj b1, cl_in hj b]
    refine uniq_sorted (key := fun x => ar q j x) (rb_sorted q _ j) ?_ fun x => ?_
    · refine List.pairwise_append.mpr ⟨rb_sorted q d j, List.pairwise_singleton _ _, fun x hx y hy => ?_⟩
      rw [List.mem_singleton.mp hy]
      exact hlt x (mem_rb.mp hx).2
    · rw [List.mem_append, List.mem_singleton, mem_rb, mem_rb, bit_xor]
      by_cases e : k = x
      · subst e
        rw [bk, decide_eq_true rfl]
        simp [hk]
      · rw [decide_eq_false e, Bool.xor_false]
        simp [Ne.symm (show k ≠ x from e)]
/-- back by the last crossing -/
theorem back {q d j : Nat} (hj : j < q) (hd : d < 2 ^ q) : ∃ k, k < q ∧ (cl q d j).getLast? = some k ∧ Hr q (d ^^^ 2 ^ k) j k ∧ d ^^^ 2 ^ k < 2 ^ q ∧ d = (d ^^^ 2 ^ k) ^^^ 2 ^ k := by
  have hne := cl_ne q d j
  have e2 : ∀ k, (d ^^^ 2 ^ k) ^^^ 2 ^ k = d := fun k => by rw [Nat.xor_assoc, Nat.xor_self, Nat.xor_zero]
  have hk : (cl q d j).getLast hne < q := cl_lt hj (List.getLast_mem hne)
  refine ⟨_, hk, List.getLast?_eq_getLast hne, ?_, Nat.xor_lt_two_pow hd (Nat.pow_lt_pow_right (by decide) hk), (e2 _).symm⟩
  unfold Hr
  rw [e2]
  exact List.getLast?_eq_getLast hne
/-- the part up to each hand on a way is that hand's own way -/
theorem part {q j : Nat} (hj : j < q) : ∀ (n : Nat) (d : Nat), d < 2 ^ q → (cl q d j).length = n → ∀ i, 1 ≤ i → i ≤ n → wf 0 ((cl q d j).take i) < 2 ^ q ∧ cl q (wf 0 ((cl q d j).take i)) j = (cl q d j).take i
  | 0, d, hd, hl, i, h1, h2 => absurd h1 (by omega)
  | n + 1, d, hd, hl, i, h1, h2 => by
    by_cases e : i = n + 1
    · rw [e, ← hl, List.take_length, wf_cl hj hd, Nat.zero_xor]
      exact ⟨hd, rfl⟩
    · obtain ⟨k, hk, _, hr, hd', ed⟩ := back hj hd
      obtain ⟨g1, g2⟩ := grow hj hk hd' hr
      rw [← ed] at g1 g2
      by_cases z : d ^^^ 2 ^ k = 0
      · obtain ⟨_, g⟩ := g1 z
        rw [g] at hl
        have : n = 0 := by
          have : (1 : Nat) = n + 1 := hl
          omega
        omega
      · have g := g2 z
        have hl2 : (cl q (d ^^^ 2 ^ k) j).length = n := by
          rw [g, List.length_append] at hl
          exact Nat.succ.inj hl
        have ih := part hj n (d ^^^ 2 ^ k) hd' hl2 i h1 (by omega)
        have et : (cl q d j).take i = (cl q (d ^^^ 2 ^ k) j).take i := by
          rw [g, List.take_append_of_le_length (by omega)]
        rw [et]
        exact ih
theorem wl_map (s : Nat) (ks : List Nat) (c : Nat) : (wl s ks).drop c = ((List.range (ks.length + 1)).drop c).map fun i => wf s (ks.take i) := by
  unfold wl
  rw [List.map_drop]
theorem wf_part {q d j s i : Nat} (hj : j < q) (hd : d < 2 ^ q) (h1 : 1 ≤ i) (h2 : i ≤ (cl q d j).length) : cl q (wf s ((cl q d j).take i) ^^^ s) j = (cl q d j).take i := by
  have := (part hj _ d hd rfl i h1 h2).2
  rw [wf_xor, Nat.xor_comm s, Nat.xor_assoc, Nat.xor_self, Nat.xor_zero]
  exact this
/-- a hand on two ways is come to by one part -/
theorem meet {q j s d1 d2 i i' : Nat} (hj : j < q) (h1 : d1 < 2 ^ q) (h2 : d2 < 2 ^ q) (hi : i ≤ (cl q d1 j).length) (hi' : i' ≤ (cl q d2 j).length) (e : wf s ((cl q d1 j).take i) = wf s ((cl q d2 j).take i')) (hs : wf s ((cl q d1 j).take i) ≠ s) :
    i = i' ∧ (cl q d1 j).take i = (cl q d2 j).take i' := by
  have p1 : 1 ≤ i := by
    rcases Nat.eq_zero_or_pos i with z | z
    · rw [z] at hs
      exact absurd rfl hs
    · exact z
  have p2 : 1 ≤ i' := by
    rcases Nat.eq_zero_or_pos i' with z | z
    · rw [e, z] at hs
      exact absurd rfl hs
    · exact z
  have t1 := wf_part (s := s) hj h1 p1 hi
  have t2 := wf_part (s := s) hj h2 p2 hi'
  rw [e] at t1
  have t : (cl q d1 j).take i = (cl q d2 j).take i' := t1.symm.trans t2
  have l := congrArg List.length t
  rw [List.length_take, List.length_take] at l
  exact ⟨by omega, t⟩
theorem ends_one {q j s d c : Nat} (hj : j < q) (hd : d < 2 ^ q) : (((wl s (cl q d j)).drop c).filter fun x => !decide (x = s)).Nodup := by
  rw [wl_map, List.filter_map]
  unfold List.Nodup
  rw [List.pairwise_map]
  have hp : (((List.range ((cl q d j).length + 1)).drop c).filter ((fun x => !decide (x = s)) ∘ fun i => wf s ((cl q d j).take i))).Pairwise (· < ·) := List.Pairwise.filter _ (List.Pairwise.drop List.pairwise_lt_range)
  refine hp.imp_of_mem fun {a b} ha hb hab e => ?_
  obtain ⟨ha1, ha2⟩ := List.mem_filter.mp ha
  obtain ⟨hb1, _⟩ := List.mem_filter.mp hb
  have ha1 := List.mem_range.mp (List.mem_of_mem_drop ha1)
  have hb1 := List.mem_range.mp (List.mem_of_mem_drop hb1)
  have hne : wf s ((cl q d j).take a) ≠ s := by simpa using ha2
  have := (meet hj hd hd (by omega) (by omega) e hne).1
  omega
theorem ends_two {q j s d1 d2 c : Nat} (hj : j < q) (h1 : d1 < 2 ^ q) (h2 : d2 < 2 ^ q) (hm : ¬ (c < (cl q d1 j).length + 1 ∧ c < (cl q d2 j).length + 1 ∧ wf s ((cl q d1 j).take c) = wf s ((cl q d2 j).take c))) :
    (((wl s (cl q d1 j)).drop c ++ (wl s (cl q d2 j)).drop c).filter fun x => !decide (x = s)).Nodup := by
  rw [List.filter_append]
  refine List.nodup_append.mpr ⟨ends_one hj h1, ends_one hj h2, fun x hx y hy e => ?_⟩
  subst e
  obtain ⟨hx1, hx2⟩ := List.mem_filter.mp hx
  obtain ⟨hy1, _⟩ := List.mem_filter.mp hy
  have hne : x ≠ s := by simpa using hx2
  rw [wl_map] at hx1 hy1
  obtain ⟨i, hi, ei⟩ := List.mem_map.mp hx1
  obtain ⟨i', hi', ei'⟩ := List.mem_map.mp hy1
  have hir := List.mem_range.mp (List.mem_of_mem_drop hi)
  have hir' := List.mem_range.mp (List.mem_of_mem_drop hi')
  have hci : c ≤ i := by
    obtain ⟨m, hm1, e⟩ := List.mem_drop_iff_getElem.mp hi
    rw [List.getElem_range] at e
    omega
  obtain ⟨e1, e2⟩ := meet hj h1 h2 (by omega) (by omega) (ei.trans ei'.symm) (by rw [ei]; exact hne)
  refine hm ⟨by omega, by omega, ?_⟩
  have t : (cl q d1 j).take c = (cl q d2 j).take c := by
    have := congrArg (List.take c) e2
    rw [List.take_take, List.take_take, Nat.min_eq_left hci, Nat.min_eq_left (by omega)] at this
    exact this
  rw [t]
theorem wl_take {s : Nat} {ks : List Nat} {i : Nat} (h : i ≤ ks.length) : (wl s ks).take (i + 1) = wl s (ks.take i) := by
  unfold wl
  rw [← List.map_take, List.take_range, List.length_take, Nat.min_eq_left h, Nat.min_eq_left (by omega)]
  refine List.map_congr_left fun m hm => ?_
  have := List.mem_range.mp hm
  rw [List.take_take, Nat.min_eq_left (by omega)]
theorem wl_init {s : Nat} {ks : List Nat} (h : ks ≠ []) : (wl s ks).dropLast = wl s ks.dropLast := by
  have hl : 1 ≤ ks.length := List.length_pos_iff.mpr h
  rw [List.dropLast_eq_take, wl_len, List.dropLast_eq_take]
  have e : ks.length + 1 - 1 = (ks.length - 1) + 1 := by omega
  rw [e, wl_take (by omega)]
end Bf
namespace Bf
open PySem PySem.Spec PyProof.Rows L2
/-! ### all hands by hearers (for k11) -/
def tl (q j s x : Nat) : Nat := x ^^^ 2 ^ ((cl q (x ^^^ s) j).getLast (cl_ne _ _ _))
theorem hears_tl {q j s h x : Nat} (hj : j < q) (hh : h < 2 ^ q) : (∃ k, k < q ∧ x = h ^^^ 2 ^ k ∧ Hr q (h ^^^ s) j k) ↔ x < 2 ^ q ∧ tl q j s x = h := by
  constructor
  · rintro ⟨k, hk, rfl, hr⟩
    refine ⟨Nat.xor_lt_two_pow hh (Nat.pow_lt_pow_right (by decide) hk), ?_⟩
    have e1 : h ^^^ 2 ^ k ^^^ s = h ^^^ s ^^^ 2 ^ k := by rw [Nat.xor_assoc, Nat.xor_comm (2 ^ k) s, ← Nat.xor_assoc]
    have e2 : (cl q (h ^^^ 2 ^ k ^^^ s) j).getLast (cl_ne _ _ _) = k := by
      have h1 : (cl q (h ^^^ 2 ^ k ^^^ s) j).getLast? = some k := by rw [e1]; exact hr
      rw [List.getLast?_eq_getLast (cl_ne _ _ _)] at h1
      exact Option.some.inj h1
    unfold tl
    rw [e2, Nat.xor_assoc, Nat.xor_self, Nat.xor_zero]
  · rintro ⟨hx, rfl⟩
    have hk : (cl q (x ^^^ s) j).getLast (cl_ne _ _ _) < q := cl_lt hj (List.getLast_mem _)
    generalize hk0 : (cl q (x ^^^ s) j).getLast (cl_ne _ _ _) = k at hk
    have et : tl q j s x = x ^^^ 2 ^ k := by
      unfold tl
      rw [hk0]
    refine ⟨k, hk, by rw [et, Nat.xor_assoc, Nat.xor_self, Nat.xor_zero], ?_⟩
    unfold Hr
    have e1 : tl q j s x ^^^ s ^^^ 2 ^ k = x ^^^ s := by
      rw [et, Nat.xor_assoc x, Nat.xor_comm (2 ^ k) s, ← Nat.xor_assoc x, Nat.xor_assoc (x ^^^ s), Nat.xor_self, Nat.xor_zero]
    rw [e1, List.getLast?_eq_getLast (cl_ne _ _ _), hk0]
theorem reach {q j s : Nat} (hj : j < q) (hs : s < 2 ^ q) {P : Nat → Prop} (h0 : P s) (hP : ∀ h x, P h → x < 2 ^ q → tl q j s x = h → x ≠ s → P x) : ∀ (n x : Nat), x < 2 ^ q → (cl q (x ^^^ s) j).length ≤ n → x ≠ s → P x
  | 0, x, hx, hl, _ => absurd (List.length_pos_iff.mpr (cl_ne q (x ^^^ s) j)) (by omega)
  | n + 1, x, hx, hl, hne => by
    have hd : x ^^^ s < 2 ^ q := Nat.xor_lt_two_pow hx hs
    obtain ⟨k, hk, hlast, hr, hd', ed⟩ := back hj hd
    have et : tl q j s x = x ^^^ 2 ^ k := by
      rw [List.getLast?_eq_getLast (cl_ne _ _ _)] at hlast
      unfold tl
      rw [Option.some.inj hlast]
    have e1 : x ^^^ 2 ^ k ^^^ s = x ^^^ s ^^^ 2 ^ k := by rw [Nat.xor_assoc, Nat.xor_comm (2 ^ k) s, ← Nat.xor_assoc]
    refine hP (tl q j s x) x ?_ hx rfl hne
    rw [et]
    by_cases z : x ^^^ 2 ^ k = s
    · rw [z]
      exact h0
    · have z2 : x ^^^ s ^^^ 2 ^ k ≠ 0 := fun y => z (by
        rw [← e1] at y
        have := congrArg (· ^^^ s) y
        simpa [Nat.xor_assoc] using this)
      have g := (grow hj hk hd' hr).2 z2
      rw [← ed] at g
      refine reach hj hs h0 hP n (x ^^^ 2 ^ k) (Nat.xor_lt_two_pow hx (Nat.pow_lt_pow_right (by decide) hk)) ?_ z
      rw [e1]
      rw [g, List.length_append] at hl
      have : (cl q (x ^^^ s ^^^ 2 ^ k) j).length + 1 ≤ n + 1 := hl
      omega
theorem tl_root {q j s : Nat} (hj : j < q) : tl q j s s = s ^^^ 2 ^ j := by
  unfold tl
  have e : (cl q (s ^^^ s) j).getLast? = some j := by
    rw [Nat.xor_self]
    exact cl_last_out hj (Nat.zero_testBit j)
  rw [List.getLast?_eq_getLast (cl_ne _ _ _)] at e
  rw [Option.some.inj e]
end Bf
namespace Bf
open PySem PySem.Spec PyProof.Rows L2
/-! ### delays counted (for k11) -/
def dlF (q d j : Nat) : Nat := if d.testBit j = true then (((List.range q).filter fun i => d.testBit ((j + i) % q)).getLast?).getD 0 else q
theorem dlF_is {q d j r : Nat} (h1 : d.testBit j = true → ∃ l, (rb q d j).getLast? = some l ∧ ar q j l = (r : Int)) (h2 : d.testBit j = false → r = q) : r = dlF q d j := by
  unfold dlF
  cases b : d.testBit j with
  | false =>
    rw [if_neg (by decide)]
    exact h2 b
  | true =>
    rw [if_pos rfl]
    obtain ⟨l, hl, el⟩ := h1 b
    have e : rb q d j = ((List.range q).filter fun i => d.testBit ((j + i) % q)).map fun i => (j + i) % q := by
      unfold rb
      rw [List.filter_map]
      rfl
    rw [e, List.getLast?_map] at hl
    cases z : ((List.range q).filter fun i => d.testBit ((j + i) % q)).getLast? with
    | none => rw [z] at hl; cases hl
    | some i =>
      rw [z] at hl
      have e2 : (j + i) % q = l := Option.some.inj hl
      have hi : i < q := List.mem_range.mp (List.mem_filter.mp (List.mem_of_getLast? z)).1
      rw [← e2, ar_at j hi] at el
      show r = i
      omega
def due (q t : Nat) : Nat := if t = 0 then 1 else if t < q then 2 ^ (t - 1) else 2 ^ (q - 1)
theorem counts : ∀ q, q < 6 → ∀ j, j < q → ∀ t, t ≤ q → ((List.range (2 ^ q)).map fun d => dlF q d j).count t = due q t := by decide +kernel
theorem xor_perm {q s : Nat} (hs : s < 2 ^ q) : ((List.range (2 ^ q)).map (· ^^^ s)).Perm (List.range (2 ^ q)) := by
  refine (List.perm_ext_iff_of_nodup ?_ List.nodup_range).mpr fun x => ?_
  · unfold List.Nodup
    rw [List.pairwise_map]
    exact (List.pairwise_lt_range).imp fun {a b} hab e => by
      have := congrArg (· ^^^ s) e
      have e2 : a = b := by simpa [Nat.xor_assoc] using this
      omega
  · rw [List.mem_map, List.mem_range]
    constructor
    · rintro ⟨y, hy, rfl⟩
      exact Nat.xor_lt_two_pow (List.mem_range.mp hy) hs
    · exact fun hx => ⟨x ^^^ s, List.mem_range.mpr (Nat.xor_lt_two_pow hx hs), by rw [Nat.xor_assoc, Nat.xor_self, Nat.xor_zero]⟩
theorem counts_at {q j s t : Nat} (hq : q < 6) (hj : j < q) (hs : s < 2 ^ q) (ht : t ≤ q) : ((List.range (2 ^ q)).map fun h => dlF q (h ^^^ s) j).count t = due q t := by
  have p := (xor_perm hs).map fun d => dlF q d j
  rw [List.map_map] at p
  rw [← counts q hq j hj t ht]
  exact p.count_eq t
end Bf
namespace Bf
open PySem PySem.Spec PyProof.Rows L2 LamX NdefX
/-! ### how many hands have a letter -/
def ctN (q j l : Nat) : Nat := ((List.range (2 ^ q)).filter fun d => decide (d = 0 ∨ dyF q d j < l)).length
def ctL (q j l : Nat) : Nat := ((List.range (2 ^ q)).filter fun d => decide (d = 0 ∨ farF q d j < l)).length
theorem ctN_is : ∀ q, q < 7 → ∀ j, j < q → ∀ l, l < q + 2 → ctN q j l = (if l = 0 then 1 else if l ≤ q then 2 ^ (l - 1) + 1 else 2 ^ q) := by decide +kernel
theorem ctL_is : ∀ q, q < 7 → ∀ j, j < q → ∀ l, l < q + 1 → ctL q j l = 2 ^ l := by decide +kernel
end Bf
namespace Bf
open PySem PySem.Spec PyProof.Rows L2 LamX NdefX
def g5 {α : Type} (us ws : List α) : List α := match us, ws with
  | [a, b, c, d, e], [f] => [a, b, c, d, e, f]
  | _, _ => []
theorem g5_rel {vs zs : List V} {us ws : List Value} (r1 : Vals vs us) (r2 : Vals zs ws) : Vals (g5 vs zs) (g5 us ws) := by
  match r1, r2 with
  | .nil, _ => exact .nil
  | .cons _ .nil, _ => exact .nil
  | .cons _ (.cons _ .nil), _ => exact .nil
  | .cons _ (.cons _ (.cons _ .nil)), _ => exact .nil
  | .cons _ (.cons _ (.cons _ (.cons _ .nil))), _ => exact .nil
  | .cons _ (.cons _ (.cons _ (.cons _ (.cons _ .nil)))), .nil => exact .nil
  | .cons a (.cons b (.cons c (.cons d (.cons e .nil)))), .cons f .nil => exact .cons a (.cons b (.cons c (.cons d (.cons e (.cons f .nil)))))
  | .cons _ (.cons _ (.cons _ (.cons _ (.cons _ .nil)))), .cons _ (.cons _ _) => exact .nil
  | .cons _ (.cons _ (.cons _ (.cons _ (.cons _ (.cons _ _))))), _ => exact .nil
theorem g5_len {us ws : List Value} (h : (g5 us ws).length = 6) : ∃ a b c d e f, us = [a, b, c, d, e] ∧ ws = [f] := by
  match us, ws, h with
  | [a, b, c, d, e], [f], _ => exact ⟨a, b, c, d, e, f, rfl, rfl⟩
  | [], _, h => cases h
  | [_], _, h => cases h
  | [_, _], _, h => cases h
  | [_, _, _], _, h => cases h
  | [_, _, _, _], _, h => cases h
  | [_, _, _, _, _], [], h => cases h
  | [_, _, _, _, _], _ :: _ :: _, h => cases h
  | _ :: _ :: _ :: _ :: _ :: _ :: _, _, h => cases h
theorem kbS5 {x1 x2 x3 x4 x5 : Str} {K : PySem.W.Frag} {x : Str} {st : Stmt} {f : Addr} {fd : FuncData} (F : FunS K x st f fd) (h : ∀ (kV doc pm : Value) (an : Option Addr) (cdv ct a b c d e g : Value), bindArgs (PySem.W.fnOf x x (defArgs st) (defBody st) (defScope st) .none kV doc pm an cdv ct) ⟨[a, b, c, d, e], [(("source" : Str), g)]⟩ = pure ([(x1, a), (x2, b), (x3, c), (x4, d), (x5, e), ("source", g)] : List (Str × Value))) :
    KBinds K fd [x1, x2, x3, x4, x5, "source"] ["source"] g5 g5 := by
  obtain ⟨oc, od, dV, kV, doc, pm, an, cdv, ct, osl, rfl, lk, hcd, hD, hK⟩ := F.ex
  rcases hD with ⟨_, rfl⟩ | ⟨z, _⟩
  · refine ⟨fun s us ws _ hl => ?_, fun r1 r2 => g5_rel r1 r2⟩
    obtain ⟨a, b, c, d, e, g, rfl, rfl⟩ := g5_len hl
    exact .of_eq (h kV doc pm an cdv ct a b c d e g)
  · exact absurd rfl z
theorem in_nv {L : List Nat} {s : Nat} (h : s ∈ L) : inV (.int (s : Int)) (nv L) = true := by
  unfold inV nv
  rw [List.any_map, List.any_eq_true]
  refine ⟨s, h, ?_⟩
  show ((s : Int) == (s : Int)) = true
  exact beq_self_eq_true _
end Bf
namespace Bf
open PySem PySem.Spec PyProof.Rows L2 LamX NdefX
/-! ### the first beat from one on that crosses a bit of the set -/
def cfF (q d t : Nat) : Nat := t + (ar q (t % q) (((rb q d (t % q)).head?).getD 0)).toNat
theorem cf_spec {q d t : Nat} (hq : 0 < q) (hd : d < 2 ^ q) (h0 : d ≠ 0) : ∃ B, (rb q d (t % q)).head? = some B ∧ (cfF q d t : Int) = t + ar q (t % q) B ∧ B < q ∧ d.testBit B = true ∧ cfF q d t % q = B ∧ t ≤ cfF q d t ∧ cfF q d t < t + q ∧ ∀ u, t ≤ u → d.testBit (u % q) = true → cfF q d t ≤ u := by
  have hne : rb q d (t % q) ≠ [] := fun e => by
    obtain ⟨i, hi⟩ := Nat.exists_testBit_of_ne_zero h0
    have : i ∈ rb q d (t % q) := mem_rb.mpr ⟨lt_of_bit hd hi, hi⟩
    rw [e] at this
    exact absurd this List.not_mem_nil
  obtain ⟨B, l, el⟩ : ∃ B l, rb q d (t % q) = B :: l := by
    cases e : rb q d (t % q) with
    | nil => exact absurd e hne
    | cons B l => exact ⟨B, l, rfl⟩
  have hm : B ∈ rb q d (t % q) := by rw [el]; exact List.mem_cons_self
  obtain ⟨hB, bB⟩ := mem_rb.mp hm
  have a0 := ar_nn (q := q) (j := t % q) (x := B) hq
  have a1 := ar_lt (q := q) (j := t % q) (x := B) hq
  have hk : t % q < q := Nat.mod_lt _ hq
  have ec : cfF q d t = t + (ar q (t % q) B).toNat := by
    unfold cfF
    rw [el]
    rfl
  have em : cfF q d t % q = B := by
    have h2 := arc_to hk hB
    rw [← Int.toNat_of_nonneg a0] at h2
    have h3 : (((t % q + (ar q (t % q) B).toNat) % q : Nat) : Int) = (B : Int) := by rw [Int.natCast_emod, Int.natCast_add]; exact h2
    have := Int.ofNat.inj h3
    rw [Nat.mod_add_mod] at this
    rw [ec]
    exact this
  refine ⟨B, by rw [el]; rfl, by omega, hB, bB, em, by omega, by omega, fun u hu bu => ?_⟩
  obtain ⟨e, rfl⟩ := Nat.exists_eq_add_of_le hu
  by_cases he : e < q
  · have h1 : ar q (t % q) ((t + e) % q) = (e : Int) := ar_add he
    have hx : (t + e) % q ∈ rb q d (t % q) := mem_rb.mpr ⟨Nat.mod_lt _ hq, bu⟩
    have hs := rb_sorted q d (t % q)
    rw [el] at hx hs
    rcases List.mem_cons.mp hx with e1 | e1
    · rw [e1] at h1
      omega
    · have := (List.pairwise_cons.mp hs).1 _ e1
      omega
  · omega
/-- which letters are had -/
theorem has_in {q m d i t : Nat} (hq : 0 < q) (hd : d < 2 ^ q) (h0 : d ≠ 0) (hi : i + 1 < m) : snF q m d i < t ↔ i + q < t ∨ i + q = cfF q d t := by
  obtain ⟨B, _, _, hB, bB, em, c1, c2, c3⟩ := cf_spec (t := t) hq hd h0
  have hj : i % q < q := Nat.mod_lt _ hq
  unfold snF
  rw [if_neg (by omega)]
  unfold dyF
  cases b : d.testBit (i % q) with
  | false =>
    rw [if_neg (by decide)]
    constructor
    · exact fun h => .inl h
    · rintro (h | h)
      · exact h
      · exfalso
        rw [← h, Nat.add_mod_right] at em
        rw [em, bB] at b
        cases b
  | true =>
    rw [if_pos rfl]
    obtain ⟨L, _, e3, bL, hL, top⟩ := far_spec (j := i % q) hq hd h0
    have fl := far_lt (q := q) (d := d) (j := i % q) hq
    have eL : (i + farF q d (i % q)) % q = L := by
      have h2 := arc_to hj hL
      rw [e3] at h2
      have : (((i % q + farF q d (i % q)) % q : Nat) : Int) = (L : Int) := by rw [Int.natCast_emod, Int.natCast_add]; exact h2
      have := Int.ofNat.inj this
      rw [Nat.mod_add_mod] at this
      exact this
    constructor
    · intro h
      by_cases hc : i + q < t
      · exact .inl hc
      · refine .inr ?_
        have h1 := c3 (i + q) (by omega) (by rw [Nat.add_mod_right]; exact b)
        refine Classical.byContradiction fun hne => ?_
        obtain ⟨e, he⟩ := Nat.exists_eq_add_of_le (show i ≤ cfF q d t by omega)
        have h2 : ar q (i % q) ((i + e) % q) = (e : Int) := ar_add (by omega)
        rw [← he, em] at h2
        have := top B bB
        omega
    · rintro (h | h)
      · omega
      · refine Classical.byContradiction fun hc => ?_
        have := c3 (i + farF q d (i % q)) (by omega) (by rw [eL]; exact bL)
        omega
theorem has_last {q m d i t : Nat} (hq : 0 < q) (hd : d < 2 ^ q) (h0 : d ≠ 0) (hi : i + 1 = m) : snF q m d i < t ↔ i + q ≤ cfF q d t := by
  obtain ⟨B, _, _, hB, bB, em, c1, c2, c3⟩ := cf_spec (t := t) hq hd h0
  have hj : i % q < q := Nat.mod_lt _ hq
  unfold snF
  rw [if_pos hi]
  obtain ⟨L, _, e3, bL, hL, top⟩ := far_spec (j := i % q) hq hd h0
  have fl := far_lt (q := q) (d := d) (j := i % q) hq
  have eL : (i + farF q d (i % q)) % q = L := by
    have h2 := arc_to hj hL
    rw [e3] at h2
    have : (((i % q + farF q d (i % q)) % q : Nat) : Int) = (L : Int) := by rw [Int.natCast_emod, Int.natCast_add]; exact h2
    have := Int.ofNat.inj this
    rw [Nat.mod_add_mod] at this
    exact this
  constructor
  · intro h
    refine Classical.byContradiction fun hne => ?_
    obtain ⟨e, he⟩ := Nat.exists_eq_add_of_le (show i ≤ cfF q d t by omega)
    have h2 : ar q (i % q) ((i + e) % q) = (e : Int) := ar_add (by omega)
    rw [← he, em] at h2
    have := top B bB
    omega
  · intro h
    refine Classical.byContradiction fun hc => ?_
    have := c3 (i + farF q d (i % q)) (by omega) (by rw [eL]; exact bL)
    omega
def hdF (q m t : Nat) : Nat := min (t - q) (m - 1)
def myF (q m d t : Nat) : Nat := hdF q m t + (if q ≤ cfF q d t then 1 else 0)
/-- the least letter that lacks -/
def flF (q m d t : Nat) : Nat := hdF q m t + (if q ≤ cfF q d t ∧ min (cfF q d t - q) (m - 1) = hdF q m t then 1 else 0)
theorem has_iff {q m d i t : Nat} (hq : 0 < q) (hd : d < 2 ^ q) (h0 : d ≠ 0) (hi : i < m) : snF q m d i < t ↔ i < hdF q m t ∨ (q ≤ cfF q d t ∧ i = min (cfF q d t - q) (m - 1)) := by
  obtain ⟨B, _, _, hB, bB, em, c1, c2, c3⟩ := cf_spec (t := t) hq hd h0
  unfold hdF
  by_cases e : i + 1 = m
  · rw [has_last hq hd h0 e]
    omega
  · rw [has_in hq hd h0 (by omega)]
    omega
theorem my_count {q m d t : Nat} (hq : 0 < q) (hm : 0 < m) (hd : d < 2 ^ q) (h0 : d ≠ 0) : ((List.range m).filter fun i => decide (snF q m d i < t)).length = myF q m d t := by
  obtain ⟨B, _, _, hB, bB, em, c1, c2, c3⟩ := cf_spec (t := t) hq hd h0
  have hE : (List.range m).filter (fun i => decide (snF q m d i < t)) = List.range (hdF q m t) ++ (if q ≤ cfF q d t then [min (cfF q d t - q) (m - 1)] else []) := by
    refine uniq_sorted (key := fun n : Nat => (n : Int)) (List.Pairwise.filter _ (List.pairwise_lt_range.imp fun {a b} h => by omega)) ?_ fun x => ?_
    · refine List.pairwise_append.mpr ⟨List.pairwise_lt_range.imp fun {a b} h => by omega, ?_, fun a ha b hb => ?_⟩
      · split
        · exact List.pairwise_singleton _ _
        · exact List.Pairwise.nil
      · split at hb
        · have := List.mem_range.mp ha
          rw [List.mem_singleton.mp hb]
          unfold hdF at this
          omega
        · exact absurd hb List.not_mem_nil
    · rw [List.mem_filter, List.mem_range, List.mem_append, List.mem_range]
      have hhd : hdF q m t ≤ m - 1 := by unfold hdF; omega
      constructor
      · rintro ⟨h1, h2⟩
        rcases (has_iff hq hd h0 h1).mp (of_decide_eq_true h2) with h | ⟨h3, h4⟩
        · exact .inl h
        · refine .inr ?_
          rw [if_pos h3]
          exact List.mem_singleton.mpr h4
      · rintro (h | h)
        · exact ⟨by omega, decide_eq_true ((has_iff hq hd h0 (by omega)).mpr (.inl h))⟩
        · split at h
          · rename_i h3
            have h4 := List.mem_singleton.mp h
            exact ⟨by omega, decide_eq_true ((has_iff hq hd h0 (by omega)).mpr (.inr ⟨h3, h4⟩))⟩
          · exact absurd h List.not_mem_nil
  rw [hE, List.length_append, List.length_range]
  unfold myF
  split <;> rfl
theorem fl_lacks {q m d t : Nat} (hq : 0 < q) (hm : 0 < m) (hd : d < 2 ^ q) (h0 : d ≠ 0) : (flF q m d t < m → ¬ snF q m d (flF q m d t) < t) ∧ (∀ i, i < flF q m d t → i < m → snF q m d i < t) ∧ flF q m d t ≤ m := by
  obtain ⟨B, _, _, hB, bB, em, c1, c2, c3⟩ := cf_spec (t := t) hq hd h0
  have hhd : hdF q m t ≤ m - 1 := by unfold hdF; omega
  refine ⟨fun hlt => ?_, fun i hi hm2 => ?_, ?_⟩
  · rw [has_iff hq hd h0 hlt]
    unfold flF
    split
    · rename_i h
      omega
    · rename_i h
      omega
  · rw [has_iff hq hd h0 hm2]
    unfold flF at hi
    split at hi
    · rename_i h
      omega
    · omega
  · unfold flF
    split <;> omega
end Bf
namespace Bf
/-! ### letters of each tree, counted -/
def ctF (q j : Nat) (u : Int) : Nat := ((u - (j : Int)) / (q : Int) + 1).toNat
theorem div_step {q : Nat} (hq : 0 < q) (x : Int) : x / (q : Int) = (x - 1) / (q : Int) + (if x % (q : Int) = 0 then 1 else 0) := by
  have h1 := Int.mul_ediv_add_emod x q
  have h2 := Int.emod_nonneg x (show (q : Int) ≠ 0 by omega)
  have h3 := Int.emod_lt_of_pos x (show (0 : Int) < q by omega)
  by_cases c : x % (q : Int) = 0
  · rw [if_pos c]
    have e : x - 1 = (q : Int) * (x / (q : Int) - 1) + ((q : Int) - 1) := by
      rw [Int.mul_sub, Int.mul_one]
      omega
    have := (Int.ediv_emod_unique (a := x - 1) (b := (q : Int)) (r := (q : Int) - 1) (q := x / (q : Int) - 1) (by omega)).mpr ⟨by omega, by omega, by omega⟩
    omega
  · rw [if_neg c]
    have := (Int.ediv_emod_unique (a := x - 1) (b := (q : Int)) (r := x % (q : Int) - 1) (q := x / (q : Int)) (by omega)).mpr ⟨by omega, by omega, by omega⟩
    omega
theorem ct_zero {q j : Nat} {u : Int} (hq : 0 < q) (h : u < (j : Int)) : ctF q j u = 0 := by
  unfold ctF
  have : (u - (j : Int)) / (q : Int) < 0 := Int.ediv_neg_of_neg_of_pos (by omega) (by omega)
  omega
theorem ct_step {q j n : Nat} (hq : 0 < q) (hj : j < q) : ctF q j (n : Int) = ctF q j ((n : Int) - 1) + (if n % q = j then 1 else 0) := by
  by_cases c : n < j
  · rw [ct_zero hq (by omega), ct_zero hq (by omega), if_neg]
    rw [Nat.mod_eq_of_lt (by omega)]
    omega
  · unfold ctF
    rw [div_step hq ((n : Int) - j), show (n : Int) - 1 - (j : Int) = (n : Int) - j - 1 by omega]
    have h0 : -1 ≤ ((n : Int) - j - 1) / (q : Int) := by
      have : (-1 : Int) / (q : Int) ≤ ((n : Int) - j - 1) / (q : Int) := Int.ediv_le_ediv (by omega) (by omega)
      have e : (-1 : Int) / (q : Int) = -1 := by
        have := (Int.ediv_emod_unique (a := (-1 : Int)) (b := (q : Int)) (r := (q : Int) - 1) (q := -1) (by omega)).mpr ⟨by omega, by omega, by omega⟩
        exact this.1
      omega
    have e1 : ((n : Int) - j) % (q : Int) = 0 ↔ n % q = j := by
      have e2 : ((n : Int) - j) = ((n - j : Nat) : Int) := by omega
      rw [e2, ← Int.natCast_emod]
      constructor
      · intro h
        have h : (n - j) % q = 0 := by omega
        have e3 : n = j + (n - j) := by omega
        rw [e3, Nat.add_mod, h, Nat.add_zero, Nat.mod_mod, Nat.mod_eq_of_lt hj]
      · intro h
        have h1 := Nat.div_add_mod n q
        have e3 : n - j = q * (n / q) := by omega
        rw [e3, Nat.mul_mod_right]
        rfl
    by_cases c2 : n % q = j
    · rw [if_pos c2, if_pos (e1.mpr c2)]
      omega
    · rw [if_neg c2, if_neg (fun z => c2 (e1.mp z))]
      omega
/-- of tree j, of the letters below n -/
def caF (q d t j n : Nat) : Nat := ctF q j (min ((n : Int) - 1) ((t : Int) - 1 - (dyF q d j : Nat)))
theorem ca_step {q d t j n : Nat} (hq : 0 < q) (hj : j < q) : caF q d t j (n + 1) = caF q d t j n + (if n % q = j ∧ n + dyF q d j < t then 1 else 0) := by
  unfold caF
  by_cases c : n + dyF q d j < t
  · rw [show min (((n + 1 : Nat) : Int) - 1) ((t : Int) - 1 - (dyF q d j : Nat)) = (n : Int) by omega, show min ((n : Int) - 1) ((t : Int) - 1 - (dyF q d j : Nat)) = (n : Int) - 1 by omega, ct_step hq hj]
    by_cases c2 : n % q = j
    · rw [if_pos c2, if_pos ⟨c2, c⟩]
    · rw [if_neg c2, if_neg (fun z => c2 z.1)]
  · rw [if_neg (fun z => c z.2), show min (((n + 1 : Nat) : Int) - 1) ((t : Int) - 1 - (dyF q d j : Nat)) = (t : Int) - 1 - (dyF q d j : Nat) by omega, show min ((n : Int) - 1) ((t : Int) - 1 - (dyF q d j : Nat)) = (t : Int) - 1 - (dyF q d j : Nat) by omega]
    rfl
/-- of the first r trees -/
def suF (q d t n : Nat) : Nat → Nat
  | 0 => 0
  | r + 1 => suF q d t n r + caF q d t r n
theorem su_step {q d t n : Nat} (hq : 0 < q) : ∀ r, r ≤ q → suF q d t (n + 1) r = suF q d t n r + (if n % q < r ∧ n + dyF q d (n % q) < t then 1 else 0)
  | 0, _ => by
    rw [if_neg (fun z => absurd z.1 (Nat.not_lt_zero _))]
    rfl
  | r + 1, h => by
    show suF q d t (n + 1) r + caF q d t r (n + 1) = suF q d t n r + caF q d t r n + _
    rw [su_step hq r (by omega), ca_step hq (by omega)]
    by_cases c : n % q = r
    · subst c
      by_cases c2 : n + dyF q d (n % q) < t
      · rw [if_neg (by omega), if_pos ⟨rfl, c2⟩, if_pos ⟨by omega, c2⟩]
        omega
      · rw [if_neg (fun z => c2 z.2), if_neg (fun z => c2 z.2), if_neg (fun z => c2 z.2)]
        omega
    · rw [if_neg (fun (z : n % q = r ∧ _) => c z.1)]
      by_cases c2 : n % q < r ∧ n + dyF q d (n % q) < t
      · rw [if_pos c2, if_pos ⟨by omega, c2.2⟩]
        omega
      · rw [if_neg c2, if_neg (fun z => c2 ⟨by omega, z.2⟩)]
        omega
theorem su_zero {q d t : Nat} (hq : 0 < q) : ∀ r, suF q d t 0 r = 0
  | 0 => rfl
  | r + 1 => by
    show suF q d t 0 r + caF q d t r 0 = 0
    rw [su_zero hq r]
    unfold caF
    rw [ct_zero hq (by omega)]
theorem su_count {q m d t : Nat} (hq : 0 < q) : ∀ n, n + 1 ≤ m → suF q d t n q = ((List.range n).filter fun i => decide (snF q m d i < t)).length
  | 0, _ => su_zero hq q
  | n + 1, h => by
    rw [su_step hq q (Nat.le_refl q), su_count (m := m) hq n (by omega), List.range_succ, List.filter_append, List.length_append]
    have hs : snF q m d n = n + dyF q d (n % q) := by
      unfold snF
      rw [if_neg (by omega)]
    have hn := Nat.mod_lt n hq
    by_cases c : snF q m d n < t
    · rw [if_pos ⟨hn, by omega⟩]
      simp [c]
    · rw [if_neg (fun z => c (by omega))]
      simp [c]
theorem su_my {q m d t : Nat} (hq : 0 < q) (hm : 0 < m) (hd : d < 2 ^ q) (h0 : d ≠ 0) : suF q d t (m - 1) q + (if snF q m d (m - 1) < t then 1 else 0) = myF q m d t := by
  rw [← my_count hq hm hd h0, su_count (m := m) hq (m - 1) (by omega)]
  obtain ⟨n, rfl⟩ : ∃ n, m = n + 1 := ⟨m - 1, by omega⟩
  rw [show n + 1 - 1 = n by omega, List.range_succ, List.filter_append, List.length_append]
  by_cases c : snF q (n + 1) d n < t
  · simp [c]
  · simp [c]
theorem ca_int {q d t j m : Nat} (hm : 0 < m) : (if ((if ((t : Int) - 1 - (dyF q d j : Nat)) < ((m : Int) - 2) then ((t : Int) - 1 - (dyF q d j : Nat)) else ((m : Int) - 2)) - (j : Int)) / (q : Int) + 1 > 0 then ((if ((t : Int) - 1 - (dyF q d j : Nat)) < ((m : Int) - 2) then ((t : Int) - 1 - (dyF q d j : Nat)) else ((m : Int) - 2)) - (j : Int)) / (q : Int) + 1 else 0) = ((caF q d t j (m - 1) : Nat) : Int) := by
  have e : (if ((t : Int) - 1 - (dyF q d j : Nat)) < ((m : Int) - 2) then ((t : Int) - 1 - (dyF q d j : Nat)) else ((m : Int) - 2)) = min (((m - 1 : Nat) : Int) - 1) ((t : Int) - 1 - (dyF q d j : Nat)) := by
    split <;> omega
  rw [e]
  unfold caF ctF
  generalize (min (((m - 1 : Nat) : Int) - 1) ((t : Int) - 1 - (dyF q d j : Nat)) - (j : Int)) / (q : Int) = z
  split <;> omega
theorem my_le {q m d t : Nat} (hm : 0 < m) : myF q m d t ≤ m := by
  unfold myF hdF
  split <;> omega
end Bf
namespace Bf
open PySem PySem.Spec PyProof.Rows L2 LamX NdefX
/-! ### all by names, in any order -/
def gP {α : Type} (π : List Nat) (us ws : List α) : List α := match us with
  | [] => if ws.length = π.length then π.filterMap (fun i => ws[i]?) else []
  | _ :: _ => []
theorem vals_get {zs : List V} {ws : List Value} (r : Vals zs ws) : ∀ i : Nat, (zs[i]? = none ∧ ws[i]? = none) ∨ ∃ z w, zs[i]? = some z ∧ ws[i]? = some w ∧ RelV z w := by
  induction r with
  | nil => exact fun i => .inl ⟨by simp, by simp⟩
  | cons a r ih =>
    intro i
    cases i with
    | zero => exact .inr ⟨_, _, rfl, rfl, a⟩
    | succ i => simpa using ih i
theorem gP_pick {zs : List V} {ws : List Value} (r : Vals zs ws) : ∀ π : List Nat, Vals (π.filterMap (fun i => zs[i]?)) (π.filterMap (fun i => ws[i]?))
  | [] => .nil
  | i :: π => by
    have ih := gP_pick r π
    rcases vals_get r i with ⟨e1, e2⟩ | ⟨z, w, e1, e2, rz⟩
    · rw [List.filterMap_cons_none e1, List.filterMap_cons_none e2]
      exact ih
    · rw [List.filterMap_cons_some e1, List.filterMap_cons_some e2]
      exact .cons rz ih
theorem gP_rel {π : List Nat} {vs zs : List V} {us ws : List Value} (r1 : Vals vs us) (r2 : Vals zs ws) : Vals (gP π vs zs) (gP π us ws) := by
  cases r1 with
  | nil =>
    show Vals (if zs.length = π.length then _ else []) (if ws.length = π.length then _ else [])
    rw [r2.length]
    by_cases e : ws.length = π.length
    · rw [if_pos e, if_pos e]
      exact gP_pick r2 π
    · rw [if_neg e, if_neg e]
      exact .nil
  | cons _ _ => exact .nil
theorem gP_len {π : List Nat} {us ws : List Value} {n : Nat} (hn : 0 < n) (h : (gP π us ws).length = n) : us = [] ∧ ws.length = π.length := by
  cases us with
  | nil =>
    refine ⟨rfl, Classical.byContradiction fun e => ?_⟩
    have : (if ws.length = π.length then π.filterMap (fun i => ws[i]?) else []).length = n := h
    rw [if_neg e] at this
    have : 0 = n := this
    omega
  | cons _ _ =>
    have : 0 = n := h
    omega
theorem kbP {π : List Nat} {ps ks : List Str} {K : PySem.W.Frag} {x : Str} {st : Stmt} {f : Addr} {fd : FuncData} (F : FunS K x st f fd) (hp : 0 < ps.length)
    (h : ∀ (kV doc pm : Value) (an : Option Addr) (cdv ct : Value) (ws : List Value), ws.length = π.length → bindArgs (PySem.W.fnOf x x (defArgs st) (defBody st) (defScope st) .none kV doc pm an cdv ct) ⟨[], ks.zip ws⟩ = pure (ps.zip (gP π [] ws))) :
    KBinds K fd ps ks (gP π) (gP π) := by
  obtain ⟨oc, od, dV, kV, doc, pm, an, cdv, ct, osl, rfl, lk, hcd, hD, hK⟩ := F.ex
  rcases hD with ⟨_, rfl⟩ | ⟨z, _⟩
  · refine ⟨fun s us ws _ hl => ?_, fun r1 r2 => gP_rel r1 r2⟩
    obtain ⟨rfl, hw⟩ := gP_len hp hl
    exact .of_eq (h kV doc pm an cdv ct ws hw)
  · exact absurd rfl z
theorem kbQ {π : List Nat} {ps ks : List Str} {K : PySem.W.Frag} {x : Str} {st : Stmt} {f : Addr} {fd : FuncData} (F : Fun K x x st f fd) (hp : 0 < ps.length)
    (h : ∀ (kV doc pm : Value) (an : Option Addr) (cdv ct : Value) (ws : List Value), ws.length = π.length → bindArgs (PySem.W.fnOf x x (defArgs st) (defBody st) (defScope st) .none kV doc pm an cdv ct) ⟨[], ks.zip ws⟩ = pure (ps.zip (gP π [] ws))) :
    KBinds K fd ps ks (gP π) (gP π) := by
  obtain ⟨oc, od, kV, doc, pm, an, cdv, ct, osl, rfl, lk, hcd⟩ := F.ex
  refine ⟨fun s us ws _ hl => ?_, fun r1 r2 => gP_rel r1 r2⟩
  obtain ⟨rfl, hw⟩ := gP_len hp hl
  exact .of_eq (h kV doc pm an cdv ct ws hw)
/-! ### data of some kinds in a list -/
structure Okd (d : PyData) : Prop where
  sh : d.showable = true
  di : d.hasDict = false
  de : d.depth ≤ 2
  lv : d.leavesShort 64 = true
  we : d.weight ≤ 200
theorem okd_none : Okd .none := ⟨rfl, rfl, by decide, rfl, by decide⟩
theorem okd_bool (b : Bool) : Okd (.bool b) := by cases b <;> exact ⟨rfl, rfl, by decide, rfl, by decide⟩
theorem okd_tup {ns : List Nat} (h : ∀ n ∈ ns, n < 2 ^ 61) (hl : ns.length ≤ 3) : Okd (.tuple (nd' ns)) := by
  refine ⟨nd_show _ h, nd_dict _, nd_dep _, nd_leaves _ h, ?_⟩
  have h2 : PyData.weight (.tuple (nd' ns)) ≤ 63 * ns.length := nd_weight ns h
  omega
theorem okd_int {n : Nat} (h : n < 2 ^ 61) : Okd (.int (n : Int)) := by
  have h1 : ∀ x ∈ [n], x < 2 ^ 61 := fun x hx => by rw [List.mem_singleton.mp hx]; exact h
  have a1 : (PyData.showable (.int (n : Int)) && PyData.showableAll []) = true := nd_show [n] h1
  have a2 : (PyData.leavesShort 64 (.int (n : Int)) && PyData.leavesShortAll 64 []) = true := nd_leaves [n] h1
  have a3 : PyData.weight (.int (n : Int)) + 1 + PyData.weightAll [] ≤ 63 * 1 := nd_weight [n] h1
  exact ⟨(Bool.and_eq_true _ _ ▸ a1).1, rfl, Nat.le_trans (by show PyData.depth (.int _) ≤ 1; simp [PyData.depth]) (by decide), (Bool.and_eq_true _ _ ▸ a2).1, by omega⟩
theorem okd_all : ∀ ds : List PyData, (∀ d ∈ ds, Okd d) → PyData.showableAll ds = true ∧ PyData.hasDictAll ds = false ∧ PyData.depthAll ds ≤ 2 ∧ PyData.leavesShortAll 64 ds = true ∧ PyData.weightAll ds ≤ 201 * ds.length
  | [], _ => ⟨rfl, rfl, by simp [PyData.depthAll], rfl, Nat.le_refl _⟩
  | d :: ds, h => by
    obtain ⟨a1, a2, a3, a4, a5⟩ := okd_all ds fun x hx => h x (List.mem_cons_of_mem _ hx)
    have o := h d List.mem_cons_self
    refine ⟨?_, ?_, ?_, ?_, ?_⟩
    · show (PyData.showable d && PyData.showableAll ds) = true
      rw [o.sh, a1]
      rfl
    · show (PyData.hasDict d || PyData.hasDictAll ds) = false
      rw [o.di, a2]
      rfl
    · show max (PyData.depth d) (PyData.depthAll ds) ≤ 2
      have := o.de
      omega
    · show (PyData.leavesShort 64 d && PyData.leavesShortAll 64 ds) = true
      rw [o.lv, a4]
      rfl
    · show PyData.weight d + 1 + PyData.weightAll ds ≤ 201 * (ds.length + 1)
      have := o.we
      omega
theorem okd_list {ds : List PyData} (h : ∀ d ∈ ds, Okd d) (hl : ds.length ≤ 100) : (PyData.list ds).showable = true ∧ (PyData.list ds).hasDict = false ∧ (PyData.list ds).depth < 60 ∧ (PyData.list ds).shown.length ≤ sizeLine := by
  obtain ⟨a1, a2, a3, a4, a5⟩ := okd_all ds h
  refine ⟨a1, a2, ?_, ?_⟩
  · show PyData.depthAll ds + 1 < 60
    omega
  · have h1 := PyData.shown_le 64 (by decide) (.list ds) a4
    have h2 : PyData.weight (.list ds) ≤ 201 * ds.length := a5
    rw [sizeLine_eq]
    have h3 : (64 + 2) * PyData.weight (.list ds) ≤ 66 * (201 * 100) := Nat.mul_le_mul (by decide) (by omega)
    omega
/-- what stands for itself -/
def vD : V → PyData
  | .non => .none
  | .bl b => .bool b
  | .int i => .int i
  | _ => .none
def Imm (v : V) : Prop := v = .non ∨ (∃ b, v = .bl b) ∨ ∃ n : Nat, n < 2 ^ 61 ∧ v = .int (n : Int)
theorem Imm.dp {K : PySem.W.Frag} {H : Hp} {v : V} (h : Imm v) : Dp K H v (vD v) := by
  rcases h with rfl | ⟨b, rfl⟩ | ⟨n, _, rfl⟩
  · exact .non
  · exact .bl b
  · exact .int _
theorem Imm.ok {v : V} (h : Imm v) : Okd (vD v) := by
  rcases h with rfl | ⟨b, rfl⟩ | ⟨n, hn, rfl⟩
  · exact okd_none
  · exact okd_bool b
  · exact okd_int hn
theorem imm_int {n : Nat} (h : n < 2 ^ 61) : Imm (.int (n : Int)) := .inr (.inr ⟨n, h, rfl⟩)
theorem imm_bl (b : Bool) : Imm (.bl b) := .inr (.inl ⟨b, rfl⟩)
theorem imm_if {c : Prop} [Decidable c] {a b : V} (ha : Imm a) (hb : Imm b) : Imm (if c then a else b) := by
  split
  · exact ha
  · exact hb
/-- a pair or nothing -/
def PrO (H : Hp) (v : V) (o : Option (Nat × Nat)) : Prop := match o with
  | none => v = .non
  | some ab => ∃ p, v = .ref p ∧ H p = some (.tup (nv [ab.1, ab.2]))
def oD : Option (Nat × Nat) → PyData
  | none => .none
  | some ab => .tuple (nd' [ab.1, ab.2])
theorem PrO.ext {H H' : Hp} {v : V} {o : Option (Nat × Nat)} (h : PrO H v o) (x : ExtN H H') : PrO H' v o := by
  cases o with
  | none => exact h
  | some ab =>
    obtain ⟨p, e, hp⟩ := h
    exact ⟨p, e, x _ _ hp (fun ps z => nomatch z)⟩
theorem PrO.upd' {H : Hp} {L : Addr} {l l' : List V} {v : V} {o : Option (Nat × Nat)} (h : PrO H v o) (eL : H L = some (.lst l)) : PrO (upd H L (.lst l')) v o := by
  cases o with
  | none => exact h
  | some ab =>
    obtain ⟨p, e, hp⟩ := h
    refine ⟨p, e, ?_⟩
    rw [upd_ne (fun z => by rw [z, eL] at hp; cases hp)]
    exact hp
theorem PrO.dp {K : PySem.W.Frag} {H : Hp} {v : V} {o : Option (Nat × Nat)} (h : PrO H v o) : Dp K H v (oD o) := by
  cases o with
  | none =>
    have h : v = .non := h
    subst h
    exact .non
  | some ab =>
    obtain ⟨p, rfl, hp⟩ := h
    exact .tup (.inl (.inl hp)) (dp_nv _)
theorem oD_ok {o : Option (Nat × Nat)} (h : ∀ ab, o = some ab → ab.1 < 2 ^ 61 ∧ ab.2 < 2 ^ 61) : Okd (oD o) := by
  cases o with
  | none => exact okd_none
  | some ab =>
    obtain ⟨h1, h2⟩ := h ab rfl
    refine okd_tup (fun n hn => ?_) (by show 2 ≤ 3; decide)
    rcases List.mem_cons.mp hn with rfl | hn
    · exact h1
    · rw [List.mem_singleton.mp hn]
      exact h2
def hdO (q m s h t : Nat) : Option (Nat × Nat) := (duF q m (h ^^^ s) t).map fun l => (h ^^^ 2 ^ (t % q), l)
def tdO (q m s h t : Nat) : Option (Nat × Nat) := (duF q m (h ^^^ 2 ^ (t % q) ^^^ s) t).map fun l => (h ^^^ 2 ^ (t % q), l)
theorem du_none {q m d t : Nat} (c : t < ltF q d (t % q)) : duF q m d t = none := by
  unfold duF
  rw [if_pos c]
theorem du_some {q m d t : Nat} (c : ¬ t < ltF q d (t % q)) : duF q m d t = some (min (t - ltF q d (t % q)) (m - 1)) := by
  unfold duF
  rw [if_neg c]
theorem du_lt {q m d t l : Nat} (hm : 0 < m) (h : duF q m d t = some l) : l < m := by
  unfold duF at h
  by_cases c : t < ltF q d (t % q)
  · rw [if_pos c] at h
    cases h
  · rw [if_neg c] at h
    have := Option.some.inj h
    omega
theorem pair_small {q m d h t : Nat} (hq : 0 < q) (hq6 : q ≤ 60) (hm : 0 < m) (hm2 : m ≤ 1000000000000000000) (hh : h < 2 ^ q) (ab : Nat × Nat) (e : (duF q m d t).map (fun l => (h ^^^ 2 ^ (t % q), l)) = some ab) : ab.1 < 2 ^ 61 ∧ ab.2 < 2 ^ 61 := by
  cases z : duF q m d t with
  | none => rw [z] at e; cases e
  | some l =>
    rw [z] at e
    have e : (h ^^^ 2 ^ (t % q), l) = ab := Option.some.inj e
    subst e
    have := du_lt hm z
    refine ⟨?_, by show l < 2 ^ 61; omega⟩
    exact Nat.lt_of_lt_of_le (Nat.xor_lt_two_pow hh (Nat.pow_lt_pow_right (by decide) (Nat.mod_lt _ hq))) (Nat.pow_le_pow_right (by decide) (by omega))
end Bf
namespace Bf
open PySem PySem.Spec PyProof.Rows L2 LamX NdefX
def PotC (H : Hp) (a : Addr) (n : Nat) : Prop := ∃ x y z : Int, H a = some (.lst [.int x, .int y, .int z]) ∧ 0 ≤ x ∧ 0 ≤ y ∧ y < 4611686018427387904 ∧ 0 ≤ z ∧ z ≤ n
theorem PotC.up {H : Hp} {a : Addr} {n m : Nat} (h : PotC H a n) (l : n ≤ m) : PotC H a m := let ⟨x, y, z, h1, h2, h3, h4, h5, h6⟩ := h; ⟨x, y, z, h1, h2, h3, h4, h5, by omega⟩
theorem PotC.new {H : Hp} {a p : Addr} {n : Nat} {o : HO} (h : PotC H a n) (hp : H p = none) : PotC (upd H p o) a n := let ⟨x, y, z, h1, h2⟩ := h; ⟨x, y, z, by rw [upd_ne (ne_of_none h1 hp)]; exact h1, h2⟩
theorem PotC.same {H H' : Hp} {a : Addr} {n : Nat} (h : PotC H a n) (s : Same H H') : PotC H' a n := let ⟨x, y, z, h1, h2⟩ := h; ⟨x, y, z, s _ _ h1, h2⟩

theorem PotC.ext {H H' : Hp} {a : Addr} {n : Nat} (h : PotC H a n) (s : ExtN H H') : PotC H' a n := let ⟨x, y, z, h1, h2⟩ := h; ⟨x, y, z, s _ _ h1 (fun ps z => nomatch z), h2⟩
theorem tabs_keepsC {T : List (Addr × Str)} {H H' : Hp} {a : Addr} {m : Nat} (p : PotC H a m) (t : Tabs T H) (k : Keeps a H H') : Tabs T H' := fun q hq => by
  obtain ⟨x, y, z, hH, _⟩ := p
  obtain ⟨ps, h1, h2, h3⟩ := t q hq
  refine ⟨ps, k _ _ (fun e => ?_) h1, h2, fun pos cv hc => ?_⟩
  · rw [e, hH] at h1
    cases h1
  · obtain ⟨c, e1, e2⟩ := h3 pos cv hc
    refine ⟨c, e1, k _ _ (fun e => ?_) e2⟩
    rw [e, hH] at e2
    unfold CodeO at e2
    cases e2
theorem potC_ne {H : Hp} {p u : Addr} {m : Nat} (h : PotC H p m) (n : H u = none) : u ≠ p := fun e => by
  obtain ⟨x, y, z, hH, _⟩ := h
  rw [e, hH] at n
  cases n
end Bf
namespace Bf
open PySem PySem.Spec PyProof.Rows L2 LamX NdefX
/-! ### tellings -/
def trip (q m s t h : Nat) : Option (Nat × Nat × Nat) := (duF q m (h ^^^ 2 ^ (t % q) ^^^ s) t).map fun l => (h, h ^^^ 2 ^ (t % q), l)
def trL (q m s t n : Nat) : List (Nat × Nat × Nat) := (List.range n).filterMap (trip q m s t)
theorem trL_none {q m s t n : Nat} (h : duF q m (n ^^^ 2 ^ (t % q) ^^^ s) t = none) : trL q m s t (n + 1) = trL q m s t n := by
  unfold trL
  rw [List.range_succ, List.filterMap_append]
  simp [trip, h]
theorem trL_some {q m s t n l : Nat} (h : duF q m (n ^^^ 2 ^ (t % q) ^^^ s) t = some l) : trL q m s t (n + 1) = trL q m s t n ++ [(n, n ^^^ 2 ^ (t % q), l)] := by
  unfold trL
  rw [List.range_succ, List.filterMap_append]
  simp [trip, h]
theorem trL_len (q m s t n : Nat) : (trL q m s t n).length ≤ n := by
  unfold trL
  have := List.length_filterMap_le (trip q m s t) (List.range n)
  rw [List.length_range] at this
  exact this
theorem trL_small {q m s t : Nat} (hq : 0 < q) (hq6 : q ≤ 6) (hm : 0 < m) (hm6 : m ≤ 60) : ∀ x ∈ trL q m s t (2 ^ q), x.1 < 128 ∧ x.2.1 < 128 ∧ x.2.2 < 128 := by
  intro x hx
  unfold trL at hx
  obtain ⟨h, hh, e⟩ := List.mem_filterMap.mp hx
  have hh := List.mem_range.mp hh
  have hz : 2 ^ q ≤ 2 ^ 6 := Nat.pow_le_pow_right (by decide) hq6
  have h2 := Nat.xor_lt_two_pow hh (Nat.pow_lt_pow_right (a := 2) (by decide) (Nat.mod_lt t hq))
  unfold trip at e
  cases z : duF q m (h ^^^ 2 ^ (t % q) ^^^ s) t with
  | none => rw [z] at e; cases e
  | some l =>
    rw [z] at e
    have e : (h, h ^^^ 2 ^ (t % q), l) = x := Option.some.inj e
    have := du_lt hm z
    subst e
    refine ⟨by show h < 128; omega, by show h ^^^ 2 ^ (t % q) < 128; omega, by show l < 128; omega⟩
abbrev Trip := Nat × Nat × Nat
def bD (x : Trip) : PyData := .tuple (nd' [x.1, x.2.1, x.2.2])
def tsL (q m s n : Nat) : List (List Trip) := (List.range n).map fun t => trL q m s t (2 ^ q)
theorem tsL_succ (q m s n : Nat) : tsL q m s (n + 1) = tsL q m s n ++ [trL q m s n (2 ^ q)] := by
  unfold tsL
  rw [List.range_succ, List.map_append]
  rfl
def KTu (H H' : Hp) : Prop := ∀ p ns, H p = some (.tup ns) → H' p = some (.tup ns)
theorem ktu_ext {H H' : Hp} (x : ExtN H H') : KTu H H' := fun p ns h => x _ _ h (fun ps z => nomatch z)
theorem ktu_lst {H : Hp} {L : Addr} {l l' : List V} (e : H L = some (.lst l)) : KTu H (upd H L (.lst l')) := fun p ns h => by
  rw [upd_ne (fun z => by rw [z, e] at h; cases h)]
  exact h
theorem KTu.trans {A B C : Hp} (x : KTu A B) (y : KTu B C) : KTu A C := fun p ns h => y p ns (x p ns h)
def TrA (H : Hp) : List V → List Trip → Prop
  | [], [] => True
  | v :: vs, x :: xs => (∃ p, v = .ref p ∧ H p = some (.tup (nv [x.1, x.2.1, x.2.2]))) ∧ TrA H vs xs
  | _, _ => False
theorem TrA.mono {H H' : Hp} (k : KTu H H') : ∀ {vs : List V} {xs : List Trip}, TrA H vs xs → TrA H' vs xs
  | [], [], _ => trivial
  | v :: vs, x :: xs, ⟨⟨p, e, h⟩, r⟩ => ⟨⟨p, e, k _ _ h⟩, TrA.mono k r⟩
  | [], _ :: _, h => h.elim
  | _ :: _, [], h => h.elim
theorem TrA.snoc {H : Hp} {v : V} {x : Trip} (hv : ∃ p, v = .ref p ∧ H p = some (.tup (nv [x.1, x.2.1, x.2.2]))) : ∀ {vs : List V} {xs : List Trip}, TrA H vs xs → TrA H (vs ++ [v]) (xs ++ [x])
  | [], [], _ => ⟨hv, trivial⟩
  | _ :: _, _ :: _, ⟨h, r⟩ => ⟨h, TrA.snoc hv r⟩
  | [], _ :: _, h => h.elim
  | _ :: _, [], h => h.elim
theorem TrA.len {H : Hp} : ∀ {vs : List V} {xs : List Trip}, TrA H vs xs → vs.length = xs.length
  | [], [], _ => rfl
  | _ :: _, _ :: _, ⟨_, r⟩ => by rw [List.length_cons, List.length_cons, r.len]
  | [], _ :: _, h => h.elim
  | _ :: _, [], h => h.elim
theorem TrA.dp {K : PySem.W.Frag} {H : Hp} : ∀ {vs : List V} {xs : List Trip}, TrA H vs xs → DpAll K H vs (xs.map bD)
  | [], [], _ => .nil
  | _ :: _, x :: _, ⟨⟨p, e, h⟩, r⟩ => by subst e; exact .cons (dp_tup (ns := [x.1, x.2.1, x.2.2]) (.inl (.inl h))) r.dp
  | [], _ :: _, h => h.elim
  | _ :: _, [], h => h.elim
def BtA (H : Hp) : List V → List (List Trip) → Prop
  | [], [] => True
  | v :: vs, x :: xs => (∃ p us, v = .ref p ∧ H p = some (.tup us) ∧ TrA H us x) ∧ BtA H vs xs
  | _, _ => False
theorem BtA.mono {H H' : Hp} (k : KTu H H') : ∀ {vs : List V} {xs : List (List Trip)}, BtA H vs xs → BtA H' vs xs
  | [], [], _ => trivial
  | v :: vs, x :: xs, ⟨⟨p, us, e, h, t⟩, r⟩ => ⟨⟨p, us, e, k _ _ h, t.mono k⟩, BtA.mono k r⟩
  | [], _ :: _, h => h.elim
  | _ :: _, [], h => h.elim
theorem BtA.snoc {H : Hp} {v : V} {x : List Trip} (hv : ∃ p us, v = .ref p ∧ H p = some (.tup us) ∧ TrA H us x) : ∀ {vs : List V} {xs : List (List Trip)}, BtA H vs xs → BtA H (vs ++ [v]) (xs ++ [x])
  | [], [], _ => ⟨hv, trivial⟩
  | _ :: _, _ :: _, ⟨h, r⟩ => ⟨h, BtA.snoc hv r⟩
  | [], _ :: _, h => h.elim
  | _ :: _, [], h => h.elim
theorem BtA.len {H : Hp} : ∀ {vs : List V} {xs : List (List Trip)}, BtA H vs xs → vs.length = xs.length
  | [], [], _ => rfl
  | _ :: _, _ :: _, ⟨_, r⟩ => by rw [List.length_cons, List.length_cons, r.len]
  | [], _ :: _, h => h.elim
  | _ :: _, [], h => h.elim
def pD (ts : List Trip) : PyData := .tuple (ts.map bD)
theorem BtA.dp {K : PySem.W.Frag} {H : Hp} : ∀ {vs : List V} {xs : List (List Trip)}, BtA H vs xs → DpAll K H vs (xs.map pD)
  | [], [], _ => .nil
  | _ :: _, x :: _, ⟨⟨p, us, e, h, t⟩, r⟩ => by subst e; exact .cons (.tup (.inl (.inl h)) t.dp) r.dp
  | [], _ :: _, h => h.elim
  | _ :: _, [], h => h.elim
/-! ### how they are shown -/
theorem nd_weight7 : ∀ ns : List Nat, (∀ n ∈ ns, n < 128) → PyData.weightAll (nd' ns) ≤ 8 * ns.length
  | [], _ => Nat.le_refl _
  | n :: ns, h => by
    have h1 : n < 2 ^ 7 := h n List.mem_cons_self
    have ih := nd_weight7 ns fun m hm => h m (List.mem_cons_of_mem _ hm)
    have e : PyData.weight (.int (n : Int)) ≤ 7 := by
      simp only [PyData.weight]
      by_cases z : n = 0
      · subst z; decide
      · have := (Nat.log2_lt z).mpr h1
        rw [if_neg (by simpa using z)]
        simp
        omega
    show PyData.weight (.int (n : Int)) + 1 + PyData.weightAll (nd' ns) ≤ 8 * (ns.length + 1)
    omega
structure Ok2 (d : PyData) (W D : Nat) : Prop where
  sh : d.showable = true
  di : d.hasDict = false
  de : d.depth ≤ D
  lv : d.leavesShort 64 = true
  we : d.weight ≤ W
  ca : d.canLay0 = true
theorem ok2_all {W D : Nat} : ∀ ds : List PyData, (∀ d ∈ ds, Ok2 d W D) → PyData.showableAll ds = true ∧ PyData.hasDictAll ds = false ∧ PyData.depthAll ds ≤ D ∧ PyData.leavesShortAll 64 ds = true ∧ PyData.weightAll ds ≤ (W + 1) * ds.length ∧ PyData.canLayAll0 ds = true
  | [], _ => ⟨rfl, rfl, Nat.zero_le _, rfl, Nat.le_refl _, rfl⟩
  | d :: ds, h => by
    obtain ⟨a1, a2, a3, a4, a5, a6⟩ := ok2_all ds fun x hx => h x (List.mem_cons_of_mem _ hx)
    have o := h d List.mem_cons_self
    refine ⟨?_, ?_, ?_, ?_, ?_, ?_⟩
    · show (PyData.showable d && PyData.showableAll ds) = true
      rw [o.sh, a1]
      rfl
    · show (PyData.hasDict d || PyData.hasDictAll ds) = false
      rw [o.di, a2]
      rfl
    · show max (PyData.depth d) (PyData.depthAll ds) ≤ D
      have := o.de
      omega
    · show (PyData.leavesShort 64 d && PyData.leavesShortAll 64 ds) = true
      rw [o.lv, a4]
      rfl
    · show PyData.weight d + 1 + PyData.weightAll ds ≤ (W + 1) * (ds.length + 1)
      have := o.we
      rw [Nat.mul_add, Nat.mul_one]
      omega
    · show (PyData.canLay0 d && PyData.canLayAll0 ds) = true
      rw [o.ca, a6]
      rfl
theorem ok2_bD {x : Trip} (h : x.1 < 128 ∧ x.2.1 < 128 ∧ x.2.2 < 128) : Ok2 (bD x) 24 2 := by
  have hl : ∀ n ∈ [x.1, x.2.1, x.2.2], n < 128 := fun n hn => by
    simp only [List.mem_cons, List.not_mem_nil, or_false] at hn
    rcases hn with rfl | rfl | rfl
    · exact h.1
    · exact h.2.1
    · exact h.2.2
  have hl2 : ∀ n ∈ [x.1, x.2.1, x.2.2], n < 2 ^ 61 := fun n hn => Nat.lt_trans (hl n hn) (by decide)
  exact ⟨nd_show _ hl2, nd_dict _, nd_dep _, nd_leaves _ hl2, nd_weight7 _ hl, nd_canAll _⟩
theorem ok2_tup {ds : List PyData} {W D n : Nat} (h : ∀ d ∈ ds, Ok2 d W D) (hn : ds.length ≤ n) : Ok2 (.tuple ds) ((W + 1) * n) (D + 1) := by
  obtain ⟨a1, a2, a3, a4, a5, a6⟩ := ok2_all ds h
  refine ⟨a1, a2, ?_, a4, ?_, a6⟩
  · show PyData.depthAll ds + 1 ≤ D + 1
    omega
  · show PyData.weightAll ds ≤ (W + 1) * n
    exact Nat.le_trans a5 (Nat.mul_le_mul_left _ hn)
theorem plan_ok {q m s : Nat} (hq : 0 < q) (hq6 : q ≤ 6) (hm : 0 < m) (hm6 : m ≤ 60) : Ok2 (.tuple ((tsL q m s (m - 1 + q)).map pD)) ((25 * 64 + 1) * 65) 4 := by
  refine ok2_tup (W := 25 * 64) (D := 3) (fun d hd => ?_) ?_
  · obtain ⟨ts, hts, rfl⟩ := List.mem_map.mp hd
    unfold tsL at hts
    obtain ⟨t, _, rfl⟩ := List.mem_map.mp hts
    refine ok2_tup (W := 24) (D := 2) (fun e he => ?_) ?_
    · obtain ⟨x, hx, rfl⟩ := List.mem_map.mp he
      exact ok2_bD (trL_small hq hq6 hm hm6 x hx)
    · rw [List.length_map]
      have := trL_len q m s t (2 ^ q)
      have hz : 2 ^ q ≤ 2 ^ 6 := Nat.pow_le_pow_right (by decide) hq6
      omega
  · unfold tsL
    rw [List.length_map, List.length_map, List.length_range]
    omega
theorem plan_shown {q m s : Nat} (hq : 0 < q) (hq6 : q ≤ 6) (hm : 0 < m) (hm6 : m ≤ 60) : (PyData.tuple ((tsL q m s (m - 1 + q)).map pD)).shown.length ≤ sizeLine := by
  have o := plan_ok (s := s) hq hq6 hm hm6
  have h1 := PyData.shown_le 64 (by decide) _ o.lv
  have h2 := o.we
  rw [sizeLine_eq]
  have h3 : (64 + 2) * PyData.weight (.tuple ((tsL q m s (m - 1 + q)).map pD)) ≤ 66 * ((25 * 64 + 1) * 65) := Nat.mul_le_mul (by decide) h2
  omega
theorem plan_shaped {q m s : Nat} (hq : 0 < q) (hq6 : q ≤ 6) (hm : 0 < m) (hm6 : m ≤ 60) : SeqAt.shaped (.tuple ((tsL q m s (m - 1 + q)).map pD)) = true := by
  have o := plan_ok (s := s) hq hq6 hm hm6
  unfold SeqAt.shaped
  rw [o.ca, Bool.true_and]
  exact decide_eq_true (Nat.le_trans o.de (by decide))
/-! ### how far the next bit is -/
def upL (q d k n : Nat) : List Nat := ((List.range n).map (· + 1)).filter fun f => d.testBit ((k + f) % q)
theorem upL_succ (q d k n : Nat) : upL q d k (n + 1) = upL q d k n ++ (if d.testBit ((k + (n + 1)) % q) = true then [n + 1] else []) := by
  unfold upL
  rw [List.range_succ, List.map_append, List.filter_append]
  by_cases h : d.testBit ((k + (n + 1)) % q) = true
  · simp [h]
  · simp [h]
theorem upL_len (q d k n : Nat) : (upL q d k n).length ≤ n := by
  unfold upL
  have := List.length_filter_le (fun f => d.testBit ((k + f) % q)) ((List.range n).map (· + 1))
  rw [List.length_map, List.length_range] at this
  exact this
theorem upL_rb (q d k : Nat) : (upL q d k q).map (fun f => (k + f) % q) = rb q d (k + 1) := by
  unfold upL rb
  rw [List.filter_map, List.filter_map, List.map_map]
  have e : ∀ i, (k + (i + 1)) % q = (k + 1 + i) % q := fun i => by rw [Nat.add_assoc k 1 i, Nat.add_comm 1 i]
  have e2 : ((fun f => (k + f) % q) ∘ fun x => x + 1) = fun i => (k + 1 + i) % q := funext e
  have e3 : ((fun f => d.testBit ((k + f) % q)) ∘ fun x => x + 1) = ((fun x => d.testBit x) ∘ fun i => (k + 1 + i) % q) := funext fun i => by
    show d.testBit ((k + (i + 1)) % q) = d.testBit ((k + 1 + i) % q)
    rw [e]
  rw [e2, e3]
theorem up_is {q d k : Nat} (hq : 0 < q) (hk : k < q) (b : d.testBit k = true) : ∃ u rest, upL q d k q = u :: rest ∧ 1 ≤ u ∧ u ≤ q ∧ ltF q d k = (q - u) % q := by
  have h1 := trF_head hk b
  rw [← upL_rb] at h1
  cases e : upL q d k q with
  | nil => rw [e] at h1; cases h1
  | cons u rest =>
    rw [e] at h1
    have h2 : (k + u) % q = trF q d k := Option.some.inj h1
    have hu : u ∈ upL q d k q := by rw [e]; exact List.mem_cons_self
    unfold upL at hu
    obtain ⟨i, hi, rfl⟩ := List.mem_map.mp (List.mem_filter.mp hu).1
    have hi := List.mem_range.mp hi
    refine ⟨i + 1, rest, rfl, by omega, by omega, ?_⟩
    have h3 := ltF_in hq b
    rw [← h2] at h3
    have h4 : ar q ((k + (i + 1)) % q) k = (((q - (i + 1)) % q : Nat) : Int) := by
      unfold ar
      rw [Int.natCast_emod, Int.natCast_emod, Int.sub_emod, Int.emod_emod, ← Int.sub_emod]
      have e5 : ((k : Int) - ((k + (i + 1) : Nat) : Int)) = ((q - (i + 1) : Nat) : Int) + (q : Int) * (-1) := by omega
      rw [e5, Int.add_mul_emod_self_left]
    rw [h4] at h3
    exact Int.ofNat.inj h3
end Bf
namespace Bf
open PySem PySem.Spec PyProof.Rows L2 LamX NdefX
/-! ### t * k for k from 0 on -/
theorem tuple_mulZ (l : Addr) (items : Array Value) (n : Nat) (dd : Option Addr) (sl : Array (Option Value)) (x : Int) (u : Tok) (c0 : (decide (x < -(2 ^ 63)) || decide (x ≥ 2 ^ 63)) = false) (c1 : (items.isEmpty || x == 1) = false) (c2 : (decide (x ≤ 0) || items.isEmpty) = true) :
    Meets (Builtin.«tuple.__mul__» ⟨[.ref l, .int x u], []⟩) (fun _ R s => s.heap.get? l = some { cls := .type "tuple", dict := dd, data := .seq items n, slots := sl } ∧
      R (.ok (.ret (Value.ref s.heap.objs.size))) { s with heap := s.heap.push { cls := Value.type "tuple", data := Data.seq #[] }, toks := s.toks }) :=
  .of_wp fun prog w A R s h => by
    obtain ⟨hp, g, d, tk, os⟩ := s
    obtain ⟨hl, h⟩ := h
    have f1 := AutoSeq1.idx_int
    wp_walk using wpAny_loadPart' hl
    repeat (first
      | (refine wpAny_ite_false (decide_eq_false (by rw [c0]; exact Bool.false_ne_true)) ?_; wp_walk using wpAny_loadPart' hl)
      | (refine wpAny_ite_false (decide_eq_false (by rw [c1]; exact Bool.false_ne_true)) ?_; wp_walk using wpAny_loadPart' hl)
      | (refine wpAny_ite_true (decide_eq_true c2) ?_; wp_walk using wpAny_loadPart' hl))
    exact ⟨_, rfl, h⟩
def rRepZ (K : PySem.W.Frag) : R2 := fun x y H Q => ∃ l k xs, x = .ref l ∧ y = .int k ∧ SqT K H l xs ∧ xs ≠ [] ∧ 0 ≤ k ∧ k ≤ 1000 ∧ xs.length ≤ 1000 ∧
  (k = 1 → Q (.ref l) H) ∧ (k ≠ 1 → ∀ p, H p = none → Q (.ref p) (upd H p (.tup (List.replicate k.toNat xs).flatten)))
theorem op_repZ {X : Cx} : OpR X (binaryOp .Mult) (rRepZ X.K) := by
  intro pins s σ H x y v u Q I rx ry h
  obtain ⟨l, k, xs, rfl, rfl, hT, hne, h1, h2, hz, q1, q2⟩ := h
  by_cases hk : 2 ≤ k
  · exact op_repT pins s σ H _ _ v u Q I rx ry ⟨l, k, xs, rfl, rfl, hT, hne, hk, h2, hz, q2 (by omega)⟩
  cases rx
  obtain ⟨t, rfl⟩ := ry
  obtain ⟨its, r, ⟨⟨cls, dd, data, sl⟩, ho, hc, n, hd⟩, hs⟩ := I.tuple hT
  simp only at hc hd
  subst hc hd
  have hle : its.length = xs.length := r.length.symm
  have hn : its ≠ [] := fun e => hne (by
    rw [e] at hle
    exact List.eq_nil_of_length_eq_zero hle.symm)
  have hi : its.toArray.isEmpty = false := by
    cases its with
    | nil => exact absurd rfl hn
    | cons a b => rfl
  have c0 : (decide (k < -(2 ^ 63)) || decide (k ≥ 2 ^ 63)) = false := by
    rw [decide_eq_false (by omega), decide_eq_false (by omega)] <;> rfl
  by_cases h0 : k = 1
  · subst h0
    exact wpAny_binaryOp_repeat_ref (T := "tuple") (U := "int") (by decide) ⟨_, ho, rfl⟩ (fun s' => typeIs_int s' 1 t) noFill_tuple_mul F.fills_int_mul F.slot_int_rmul repeat_tuple F.slot_int_index.lookup
      (call_meets F.slot_int_rmul (typeIs_int s 1 t) F.entry_int_rmul (F.args_int_rmul_2 _ _) (int_rmul_tuple 1 t l its.toArray n dd sl)
        ⟨ho, rfl, ⟨_, ho, rfl⟩, call_meets F.slot_tuple_mul ⟨_, ho, rfl⟩ F.entry_tuple_mul (F.args_tuple_mul_2 _ _) (tuple_mul0 l its.toArray n dd sl 1 t c0 (by rw [hi]; rfl)) ⟨ho, ⟨.ref l, H, I, rfl, q1 rfl⟩⟩⟩)
  · have hk0 : k = 0 := by omega
    subst hk0
    have c1 : (its.toArray.isEmpty || (0 : Int) == 1) = false := by
      rw [hi]
      rfl
    have c2 : (decide ((0 : Int) ≤ 0) || its.toArray.isEmpty) = true := rfl
    refine wpAny_binaryOp_repeat_ref (T := "tuple") (U := "int") (by decide) ⟨_, ho, rfl⟩ (fun s' => typeIs_int s' 0 t) noFill_tuple_mul F.fills_int_mul F.slot_int_rmul repeat_tuple F.slot_int_index.lookup
      (call_meets F.slot_int_rmul (typeIs_int s 0 t) F.entry_int_rmul (F.args_int_rmul_2 _ _) (int_rmul_tuple 0 t l its.toArray n dd sl)
        ⟨ho, rfl, ⟨_, ho, rfl⟩, call_meets F.slot_tuple_mul ⟨_, ho, rfl⟩ F.entry_tuple_mul (F.args_tuple_mul_2 _ _) (tuple_mulZ l its.toArray n dd sl 0 t c0 c1 c2) ⟨ho, ?_⟩⟩)
    refine ⟨.ref s.heap.objs.size, _, I.laid (t' := s.toks) (o := .tup (List.replicate (0 : Int).toNat xs).flatten) (fun b ob q => Heap.get?_push_of_some _ q) (Nat.le_refl _) ?_, rfl, q2 (by decide) _ (I.hok.fresh (Nat.le_refl _))⟩
    exact ⟨Nat.zero_le _, [], .nil, IsTup.new _ _⟩
/-! ### walks -/
theorem walk_revT {K : PySem.W.Frag} {a : Addr} {xs : List V} : Walk (RT.ItvT K a xs.length) xs.length (fun H => SqT K H a xs) (fun i H x H' => H' = H ∧ xs[xs.length - 1 - i]? = some x) :=
  ⟨fun i _ hi q => ⟨hi, xs, xs[xs.length - 1 - i]'(by omega), q, by simp [show xs.length - 1 - i < xs.length by omega]⟩, fun _ _ => Nat.le_refl _, fun _ _ _ _ _ q y => ⟨y.1, y.2 xs q⟩⟩
theorem walk_zipT {K : PySem.W.Frag} {a b : Addr} {xs ys : List V} {n : Nat} (hn : n = min xs.length ys.length) : Walk (RZ.ItzT K a b) n (fun H => SqT K H a xs ∧ SqT K H b ys) (YPair (fun i => xs[i]?) (fun i => ys[i]?)) := by
  subst hn
  refine ⟨fun i _ hi q => ?_, fun _ q => ⟨xs, ys, q.1, q.2, by omega⟩, fun i H v H' _ q y => ?_⟩
  · have h1 : i < xs.length := by omega
    have h2 : i < ys.length := by omega
    exact ⟨xs, ys, xs[i], ys[i], q.1, q.2, by simp [h1], by simp [h2]⟩
  · obtain ⟨T, x, z, h1, h2, h3, h4, h5⟩ := y
    exact ⟨T, x, z, h1, h2, h3, h4 xs q.1, h5 ys q.2⟩
/-! ### what a row comes to -/
def ev : List Nat → Nat → Nat
  | [], _ => 0
  | a :: as, x => a + x * ev as x
theorem ev_snoc (x a : Nat) : ∀ ns : List Nat, ev (ns ++ [a]) x = ev ns x + a * x ^ ns.length
  | [] => by simp [ev]
  | b :: ns => by
    show b + x * ev (ns ++ [a]) x = b + x * ev ns x + a * x ^ (ns.length + 1)
    rw [ev_snoc x a ns, Nat.mul_add, Nat.pow_succ]
    have : x * (a * x ^ ns.length) = a * (x ^ ns.length * x) := by rw [Nat.mul_left_comm, Nat.mul_comm x]
    omega
theorem ev_zeros (x : Nat) (ns : List Nat) : ∀ k, ev (ns ++ List.replicate k 0) x = ev ns x
  | 0 => by rw [List.replicate_zero, List.append_nil]
  | k + 1 => by
    rw [List.replicate_succ', ← List.append_assoc, ev_snoc, ev_zeros x ns k]
    simp
theorem ev_more (p x c : Nat) : ∀ as bs : List Nat, as.length = bs.length → ev ((as.zip bs).map fun ab => (ab.1 + c * ab.2) % p) x % p = (ev as x + c * ev bs x) % p
  | [], [], _ => by simp [ev]
  | a :: as, b :: bs, h => by
    have ih := ev_more p x c as bs (by simpa using h)
    show ((a + c * b) % p + x * ev ((as.zip bs).map fun ab => (ab.1 + c * ab.2) % p) x) % p = (a + x * ev as x + c * (b + x * ev bs x)) % p
    rw [Nat.add_mod, Nat.mod_mod, Nat.mul_mod, ih, ← Nat.mul_mod, ← Nat.add_mod]
    congr 1
    rw [Nat.mul_add, Nat.mul_add, Nat.mul_left_comm c x]
    omega
theorem ev_step {p x a : Nat} {as : List Nat} : (ev as x % p * x + a) % p = ev (a :: as) x % p := by
  show _ = (a + x * ev as x) % p
  rw [Nat.add_comm a, Nat.mul_comm x, Nat.add_mod, Nat.mul_mod, Nat.mod_mod, ← Nat.mul_mod, ← Nat.add_mod]
theorem ev_pow {p x a : Nat} {as : List Nat} : (ev as x % p + a * (x ^ as.length % p)) % p = ev (as ++ [a]) x % p := by
  rw [ev_snoc, Nat.add_mod, Nat.mod_mod, Nat.mul_mod, Nat.mod_mod, ← Nat.mul_mod, ← Nat.add_mod]
theorem pow_step {p x n : Nat} : x ^ n % p * x % p = x ^ (n + 1) % p := by
  rw [Nat.pow_succ, Nat.mul_mod, Nat.mod_mod, ← Nat.mul_mod]
theorem rep_zero : ∀ k : Nat, (List.replicate k [V.int 0]).flatten = nv (List.replicate k 0)
  | 0 => rfl
  | k + 1 => by
    rw [List.replicate_succ, List.flatten_cons, rep_zero k, List.replicate_succ]
    rfl
/-! ### how rows are shown -/
theorem ok2_row {ns : List Nat} (h : ∀ n ∈ ns, n < 2 ^ 61) (hl : ns.length ≤ 100) : Ok2 (.tuple (nd' ns)) 6300 2 := by
  refine ⟨nd_show _ h, nd_dict _, nd_dep _, nd_leaves _ h, ?_, nd_canAll _⟩
  have h2 : PyData.weight (.tuple (nd' ns)) ≤ 63 * ns.length := nd_weight ns h
  omega
theorem two_shown {ds : List PyData} (h : ∀ d ∈ ds, Ok2 d 6300 2) (hl : ds.length ≤ 2) : (PyData.showableAll ds = true ∧ PyData.hasDictAll ds = false ∧ PyData.depthAll ds + 1 < 60) ∧ (PyData.tuple ds).shown.length ≤ sizeLine ∧ (PyData.list ds).shown.length ≤ sizeLine := by
  obtain ⟨a1, a2, a3, a4, a5, a6⟩ := ok2_all ds h
  refine ⟨⟨a1, a2, by omega⟩, ?_, ?_⟩
  · have h1 := PyData.shown_le 64 (by decide) (.tuple ds) a4
    have h2 : PyData.weight (.tuple ds) ≤ 6301 * ds.length := a5
    rw [sizeLine_eq]
    have h3 : (64 + 2) * PyData.weight (.tuple ds) ≤ 66 * (6301 * 2) := Nat.mul_le_mul (by decide) (by omega)
    omega
  · have h1 := PyData.shown_le 64 (by decide) (.list ds) a4
    have h2 : PyData.weight (.list ds) ≤ 6301 * ds.length := a5
    rw [sizeLine_eq]
    have h3 : (64 + 2) * PyData.weight (.list ds) ≤ 66 * (6301 * 2) := Nat.mul_le_mul (by decide) (by omega)
    omega
end Bf
namespace Bf
open PySem PySem.Spec PyProof.Rows L2
def topS (i : Nat) : Stmt := PySem.Challenge.pw_beatferry_k32_letters_round_by_round.main.body.getD i (.Pass ⟨0, 0, 0, 0⟩)
abbrev sRai : Stmt := topS 5
abbrev sInv : Stmt := topS 6
abbrev sVal : Stmt := topS 8
abbrev sVals : Stmt := topS 9
abbrev sWr : Stmt := topS 10
abbrev sTg : Stmt := topS 11
abbrev sRt : Stmt := topS 12
abbrev sLe : Stmt := topS 14
abbrev sPot : Stmt := topS 16
abbrev sTake : Stmt := topS 17
abbrev sOf : Stmt := topS 18
abbrev sUn : Stmt := topS 19
abbrev sFi : Stmt := topS 20
abbrev sNu : Stmt := topS 21
abbrev sCt : Stmt := topS 22
abbrev sFo : Stmt := topS 23
abbrev sRi : Stmt := topS 24
abbrev sLaw : Stmt := topS 25
theorem scPot : FnScope ["_law_script", "_law_nth", "_law_cell", "_law_great", "_law_mixed"] ["_law_script", "_law_nth"] (defScope sPot) := ⟨rfl, rfl, rfl, by decide +kernel, rfl, by decide +kernel, by decide +kernel⟩
theorem scTake : FnScope ["_law_pot", "_law_size", "_law_digit", "_law_primes", "_law_prime", "_law_drawn", "_law_last"] ["_law_pot", "_law_size"] (defScope sTake) := ⟨rfl, rfl, rfl, by decide +kernel, rfl, by decide +kernel, by decide +kernel⟩
section
variable {P : Program} {w : World} {K : PySem.W.Frag} {mg : Str → Option Value} {base : Heap} {f fT fO fF : Addr} {fd fdT fdO fdF : FuncData} {k : Nat}
/-! ### pot -/
def spPot (K : PySem.W.Frag) : Sp := fun vs H Q _ => ∃ (a : Addr) (ns : List Int) (k : Nat), vs = [.ref a, .int k] ∧ SqL K H a (ns.map V.int) ∧ ns.length ≤ 63 ∧ k ≤ 100 ∧
  ∀ H' p, Same H H' → H p = none → Pot H' p 0 → Q (.ref p) H'
theorem ok_pot (F : Fun K "_law_urn" "_law_urn" sPot f fd) (ml : mg "len" = none) (ma : mg "abs" = none) (mi : mg "int" = none) : FnOk P w K mg base CX0 (k + 1) f fd ["_law_script", "_law_nth"] (spPot K) := by
  refine F.ok scPot (fun vs H Q E h => ?_) (fun cdv A outer s H vs Q E hr h => ?_)
  · obtain ⟨a, ns, k, rfl, _⟩ := h
    rfl
  · obtain ⟨a, ns, k, rfl, hS, hl, hk, q⟩ := h
    refine ⟨_, pss_cons (ps_set (i := 2) scPot.nd rfl (.inl rfl) (pe_ifExp (pt_cmpR op_lt (pv 1) (pe_callB call_len_seq (by rfl) ml PySem.boot_len (pa_cons (pv 0) pa_nil)) (nomark _)) (pe_ix ix_list (pv 0) (pv 1) (fun _ _ => rfl)) pe_int))
      (pss_cons (ps_set (i := 3) scPot.nd rfl (.inl rfl) (pe_op op_mul (pe_op op_mod (pe_callB call_abs (by rfl) ma (by decide +kernel) (pa_cons (pv 2) pa_nil)) (pe_op op_mulW (pe_op op_mulW (pe_op op_pow pe_int pe_int) (pe_op op_pow pe_int pe_int)) (pe_op op_pow pe_int pe_int)))
        (pe_callTy call_int1 (by rfl) mi (by decide +kernel) (pa_cons (pe_cmpR op_ge (pe_callB call_abs (by rfl) ma (by decide +kernel) (pa_cons (pv 2) pa_nil)) (pe_op op_pow pe_int pe_int) (nomark _)) pa_nil))))
      (pss_cons (ps_set (i := 4) scPot.nd rfl (.inl rfl) (pe_op op_add (pe_op op_add (pe_op op_add (pe_op op_mul (pe_op op_mod (pv 2) pe_int) pe_int) (pe_op op_mul (pe_op op_mul pe_int (pv 1)) (pv 1))) (pe_op op_mul pe_int (pv 1))) pe_int))
      (pss_one (ps_ret (pe_lst (pa_cons (pv 3) (pa_cons (pe_op op_mod (pv 4) pe_int) (pa_cons pe_int pa_nil)))))))), ?_⟩
    have fin : ∀ (x y : Int), 0 ≤ x → 0 ≤ y → y < 2305843009213693952 → ∀ p, H p = none → Q (.ref p) (upd H p (.lst [.int x, .int y, .int 0])) := fun x y h1 h2 h3 p np =>
      q _ p (same_new (Same.refl H) np) np ⟨x, y, 0, upd_same, h1, h2, h3, by omega, by omega⟩
    refine rd_ifI (decide ((k : Int) < ((ns.map V.int).length : Int))) (fun _ => True) ?_ ?_ ?_ ?_
    · exact fun Q' h => ⟨.int k, rfl, .ref a, rfl, a, _, rfl, .inl hS, _, _, rfl, rfl, _, rfl, h⟩
    · intro e
      have z : (k : Int) < ((ns.map V.int).length : Int) := of_decide_eq_true e
      rw [List.length_map] at z
      have z2 : k < ns.length := by omega
      exact ⟨ns[k], trivial, fun Q' h => ⟨.ref a, rfl, .int k, rfl, a, _, _, _, rfl, rfl, hS, atI_nat (j := k) (by rw [List.getElem?_map, List.getElem?_eq_getElem z2]; rfl), h⟩⟩
    · exact fun _ => ⟨0, trivial, fun Q' h => h⟩
    intro c _
    dsimp only [gName, tSeq, tAsg]
    refine ⟨.int c, rfl, c, rfl, _, _, rfl, rfl, ⟨by decide, by decide, by decide⟩, _, _, rfl, rfl, ⟨by decide, by decide, by decide⟩, _, _, rfl, rfl, wide_mul (a := 200) (b := 200) (by decide +kernel) (by decide +kernel) (by decide) (by decide) (by decide), _, _, rfl, rfl, ⟨by decide, by decide, by decide⟩, _, _, rfl, rfl, wide_mul (a := 400) (b := 200) (by decide +kernel) (by decide +kernel) (by decide) (by decide) (by decide), _, _, rfl, rfl, (show (0 : Int) < (10 : Int) ^ (60 : Int).toNat * (10 : Int) ^ (60 : Int).toNat * (10 : Int) ^ (60 : Int).toNat by decide +kernel),
      .int c, rfl, c, rfl, _, _, rfl, rfl, ⟨by decide, by decide, by decide⟩, _, _, rfl, rfl, .inr ⟨_, rfl, ?_⟩⟩
    generalize decide ((10 : Int) ^ (18 : Int).toNat ≤ _) = bb
    have hpos : (0 : Int) ≤ (if c < 0 then -c else c) % ((10 : Int) ^ (60 : Int).toNat * (10 : Int) ^ (60 : Int).toNat * (10 : Int) ^ (60 : Int).toNat) := Int.emod_nonneg _ (by decide +kernel)
    refine ⟨_, _, rfl, rfl, .inr ?_, ?_⟩
    · cases bb <;> exact ⟨by decide, by decide⟩
    have hown : (0 : Int) ≤ (if c < 0 then -c else c) % ((10 : Int) ^ (60 : Int).toNat * (10 : Int) ^ (60 : Int).toNat * (10 : Int) ^ (60 : Int).toNat) * (if bb = true then 1 else 0) := Int.mul_nonneg hpos (by cases bb <;> decide)
    refine ⟨.int c, rfl, _, _, rfl, rfl, (show (0 : Int) < 2305843009213693951 by decide), _, _, rfl, rfl, .inr ⟨by decide, by decide⟩, .int k, rfl, _, _, rfl, rfl, .inl ⟨by decide, by decide⟩, .int k, rfl, _, _, rfl, rfl, .inr ⟨by omega, by omega⟩, _, _, rfl, rfl, .int k, rfl, _, _, rfl, rfl, .inl ⟨by decide, by decide⟩, _, _, rfl, rfl, _, _, rfl, rfl, ?_⟩
    refine ⟨_, rfl, _, rfl, _, _, rfl, rfl, (show (0 : Int) < 2305843009213693921 by decide), (by show 3 ≤ sizeLine; decide), fun p np => ?_⟩
    refine fin _ _ hown ?_ ?_ p np
    · exact Int.emod_nonneg _ (by decide)
    · exact Int.lt_trans (Int.emod_lt_of_pos _ (by decide)) (by decide)
/-! ### take -/
theorem primes8 (n : Int) (h0 : 0 ≤ n) (h : n < 8) : ∃ v : Int, atI [V.int 2147483647, .int 2147483629, .int 2147483587, .int 2147483579, .int 2147483563, .int 2147483549, .int 2147483543, .int 2147483497] n = some (.int v) ∧ 0 < v ∧ v ≤ 2147483647 := by
  obtain ⟨m, rfl⟩ := Int.eq_ofNat_of_zero_le h0
  match m, h with
  | 0, _ => exact ⟨_, rfl, by decide, by decide⟩
  | 1, _ => exact ⟨_, rfl, by decide, by decide⟩
  | 2, _ => exact ⟨_, rfl, by decide, by decide⟩
  | 3, _ => exact ⟨_, rfl, by decide, by decide⟩
  | 4, _ => exact ⟨_, rfl, by decide, by decide⟩
  | 5, _ => exact ⟨_, rfl, by decide, by decide⟩
  | 6, _ => exact ⟨_, rfl, by decide, by decide⟩
  | 7, _ => exact ⟨_, rfl, by decide, by decide⟩
def spTake : Sp := fun vs H Q _ => ∃ (a : Addr) (n m : Nat), vs = [.ref a, .int n] ∧ 0 < n ∧ n < 2305843009213693952 ∧ Pot H a m ∧ m < 100000 ∧ ∀ (r : Nat) H', r < n → Keeps a H H' → Pot H' a (m + 1) → Q (.int r) H'
theorem ok_take (F : Fun K "_law_take" "_law_take" sTake f fd) : FnOk P w K mg base CX0 (k + 1) f fd ["_law_pot", "_law_size"] spTake := by
  refine F.ok scTake (fun vs H Q E h => ?_) (fun cdv A outer s H vs Q E hr h => ?_)
  · obtain ⟨a, n, m, rfl, _⟩ := h
    rfl
  · obtain ⟨a, n, m, rfl, hn, hn2, ⟨x, y, z, hH, hx, hy, hy2, hz, hz2⟩, hm, q⟩ := h
    refine ⟨_, pss_cons (ps_if (pt_cmpR op_gt (pe_ix ix_list (pv 0) pe_int (fun _ _ => rfl)) pe_int (nomark _))
        (pss_cons (ps_set (i := 2) scTake.nd rfl (.inl rfl) (pe_op op_mod (pe_ix ix_list (pv 0) pe_int (fun _ _ => rfl)) (pv 1)))
        (pss_cons (ps_asg (pe_op op_fdivW (pe_ix ix_list (pv 0) pe_int (fun _ _ => rfl)) (pv 1)) (pg_sub (pv 0) pe_int set_list))
        (pss_one (ps_ret (pv 2))))) pss_nil)
      (pss_cons (ps_asg (pe_op op_add (pe_ix ix_list (pv 0) pe_int (fun _ _ => rfl)) pe_int) (pg_sub (pv 0) pe_int set_list))
      (pss_cons (ps_set (i := 3) scTake.nd rfl (.inl rfl) (pe_lst (pa_cons pe_int (pa_cons pe_int (pa_cons pe_int (pa_cons pe_int (pa_cons pe_int (pa_cons pe_int (pa_cons pe_int (pa_cons pe_int pa_nil))))))))))
      (pss_cons (ps_set (i := 4) scTake.nd rfl (.inl rfl) (pe_ix ix_list (pv 3) (pe_op op_mod (pe_ix ix_list (pv 0) pe_int (fun _ _ => rfl)) pe_int) (fun _ _ => rfl)))
      (pss_cons (ps_set (i := 5) scTake.nd rfl (.inl rfl) (pe_op op_add (pe_op op_mod (pe_op op_mod (pe_op op_add (pe_ix ix_list (pv 0) pe_int (fun _ _ => rfl)) (pe_op op_mul (pe_op op_mul pe_int (pe_ix ix_list (pv 0) pe_int (fun _ _ => rfl))) (pe_ix ix_list (pv 0) pe_int (fun _ _ => rfl)))) (pe_op op_mul (pv 4) (pv 4))) (pv 4)) pe_int))
      (pss_cons (ps_set (i := 6) scTake.nd rfl (.inl rfl) (pe_op op_fdiv (pe_op op_mod (pe_op op_mul (pe_op op_mod (pe_op op_mul (pv 5) (pe_op op_add (pe_op op_mod (pv 5) pe_int) (pe_ix ix_list (pv 0) pe_int (fun _ _ => rfl)))) (pv 4)) pe_int) (pv 4)) pe_int))
      (pss_cons (ps_if (pt_cmpR op_gt (pv 1) (pe_op op_pow pe_int pe_int) (nomark _)) (pss_one (ps_set (i := 6) scTake.nd rfl (.inl rfl) (pe_op op_mod (pe_op op_pow (pe_op op_add (pv 6) pe_int) pe_int) (pe_op op_add (pe_op op_pow pe_int pe_int) pe_int)))) pss_nil)
      (pss_one (ps_ret (pe_op op_mod (pv 6) (pv 1)))))))))), ?_⟩
    have hL : SqL K H a [.int x, .int y, .int z] := .inl (.inl hH)
    have hnI : (0 : Int) < (n : Int) := by omega
    refine ⟨.ref a, rfl, a, _, _, .int x, rfl, rfl, hL, rfl, _, _, rfl, rfl, _, rfl, ite2 (fun e => ?_) (fun e => ?_)⟩
    · obtain ⟨r, er, hr2⟩ := nat_of (n := n) (Int.emod_nonneg x (Int.ne_of_gt hnI)) (Int.emod_lt_of_pos x hnI)
      refine ⟨.ref a, rfl, a, _, _, .int x, rfl, rfl, hL, rfl, .int n, rfl, _, _, rfl, rfl, hnI, ?_⟩
      refine ⟨.ref a, rfl, a, _, _, .int x, rfl, rfl, hL, rfl, .int n, rfl, _, _, rfl, rfl, wide_div (b := 61) hnI (by show (n : Int).natAbs < 2305843009213693952; omega) (by decide) (by decide), .ref a, rfl, a, _, _, 0, rfl, rfl, hH, rfl, .int (x % n), rfl, ?_⟩
      rw [er]
      exact q r _ hr2 (Keeps.refl a H).at ⟨x / n, y, z, upd_same, Int.ediv_nonneg hx (Int.le_of_lt hnI), hy, hy2, hz, by omega⟩
    · refine ⟨.ref a, rfl, a, _, _, .int z, rfl, rfl, hL, rfl, _, _, rfl, rfl, .ref a, rfl, a, _, _, 2, rfl, rfl, hH, rfl, (by show 8 ≤ sizeLine; decide), fun p np => ?_⟩
      obtain ⟨v, hv, hv0, hv1⟩ := primes8 ((z + 1) % 8) (Int.emod_nonneg _ (by decide)) (Int.emod_lt_of_pos _ (by decide))
      have hap : a ≠ p := fun e => by
        rw [← e, upd_same] at np
        cases np
      have hL2 : SqL K (upd (upd H a (.lst [.int x, .int y, .int (z + 1)])) p (.lst [V.int 2147483647, .int 2147483629, .int 2147483587, .int 2147483579, .int 2147483563, .int 2147483549, .int 2147483543, .int 2147483497])) a [.int x, .int y, .int (z + 1)] := .inl (.inl (by rw [upd_ne hap, upd_same]))
      refine ⟨.ref p, rfl, .ref a, rfl, a, _, _, .int (z + 1), rfl, rfl, hL2, rfl, _, _, rfl, rfl, (show (0 : Int) < 8 by decide), p, _, _, .int v, rfl, rfl, .inl (.inl upd_same), hv, ?_⟩
      have hv2 : (0 : Int) < v * v := Int.mul_pos hv0 hv0
      refine ⟨.ref a, rfl, a, _, _, .int y, rfl, rfl, hL2, rfl, .ref a, rfl, a, _, _, .int (z + 1), rfl, rfl, hL2, rfl, _, _, rfl, rfl, .inl ⟨by decide, by decide⟩, .ref a, rfl, a, _, _, .int (z + 1), rfl, rfl, hL2, rfl, _, _, rfl, rfl, .inr ⟨by omega, by omega⟩, _, _, rfl, rfl,
        .int v, rfl, .int v, rfl, _, _, rfl, rfl, .inl ⟨by omega, by omega⟩, _, _, rfl, rfl, hv2, .int v, rfl, _, _, rfl, rfl, hv0, _, _, rfl, rfl, ?_⟩
      have mE := Int.emod_nonneg ((y + 69621 * (z + 1) * (z + 1)) % (v * v)) (Int.ne_of_gt hv0)
      have mF := Int.emod_lt_of_pos ((y + 69621 * (z + 1) * (z + 1)) % (v * v)) hv0
      have hw : ∀ w : Int, 0 ≤ w % v ∧ w % v < 2147483648 := fun w => ⟨Int.emod_nonneg _ (Int.ne_of_gt hv0), by
        have := Int.emod_lt_of_pos w hv0
        omega⟩
      refine ⟨_, rfl, _, rfl, _, _, rfl, rfl, (show (0 : Int) < 1009 by decide), .ref a, rfl, a, _, _, .int (z + 1), rfl, rfl, hL2, rfl, _, _, rfl, rfl, _, _, rfl, rfl, .inl ⟨by omega, by omega⟩, .int v, rfl, _, _, rfl, rfl, hv0, _, _, rfl, rfl, .inr ⟨by decide, by decide⟩, .int v, rfl, _, _, rfl, rfl, hv0, _, _, rfl, rfl, ⟨by decide, by decide⟩, ?_⟩
      have hg := hw ((((y + 69621 * (z + 1) * (z + 1)) % (v * v) % v + 1) * (((y + 69621 * (z + 1) * (z + 1)) % (v * v) % v + 1) % 1009 + (z + 1))) % v * 48271)
      dsimp only [gName, tSeq, tAsg]
      refine rd_ifSet (decide ((10 : Int) ^ (7 : Int).toNat < (n : Int))) (fun u H' => H' = upd (upd H a (.lst [.int x, .int y, .int (z + 1)])) p (.lst [V.int 2147483647, .int 2147483629, .int 2147483587, .int 2147483579, .int 2147483563, .int 2147483549, .int 2147483543, .int 2147483497]) ∧ ∃ c : Int, u = .int c) ?_ ?_ ?_ ?_
      · exact fun Q' h => ⟨.int n, rfl, _, _, rfl, rfl, ⟨by decide, by decide, by decide⟩, _, _, rfl, rfl, _, rfl, h⟩
      · intro _ Q' hQ
        exact ⟨_, rfl, _, _, rfl, rfl, _, _, rfl, rfl, ⟨by decide, by decide, by omega⟩, _, _, rfl, rfl, ⟨by decide, by decide, by decide⟩, _, _, rfl, rfl, _, _, rfl, rfl, (show (0 : Int) < (10 : Int) ^ (40 : Int).toNat + 121 by decide +kernel), hQ _ _ ⟨rfl, _, rfl⟩⟩
      · exact fun _ => ⟨_, rfl, rfl, _, rfl⟩
      rintro u H' ⟨rfl, c, rfl⟩
      refine ⟨_, rfl, .int n, rfl, _, _, rfl, rfl, hnI, ?_⟩
      obtain ⟨r, er, hr2⟩ := nat_of (n := n) (Int.emod_nonneg c (Int.ne_of_gt hnI)) (Int.emod_lt_of_pos c hnI)
      show Q (.int (c % n)) _
      rw [er]
      refine q r _ hr2 ((Keeps.refl a H).at.new np) ⟨x, y, z + 1, by rw [upd_ne hap, upd_same], hx, hy, hy2, by omega, by omega⟩
end
/-! ### of -/
section
variable {P : Program} {w : World} {K : PySem.W.Frag} {mg : Str → Option Value} {base : Heap} {f fT fO fF : Addr} {fd fdT fdO fdF : FuncData} {k : Nat}
theorem scOf : FnScope ["_law_pot", "_law_some"] ["_law_pot", "_law_some"] (defScope sOf) := ⟨rfl, rfl, rfl, by decide +kernel, rfl, by decide +kernel, by decide +kernel⟩
def spOf (K : PySem.W.Frag) : Sp := fun vs H Q _ => ∃ (a b : Addr) (xs : List V) (m : Nat), vs = [.ref a, .ref b] ∧ (∀ H', Keeps a H H' → SqL K H' b xs) ∧ 0 < xs.length ∧ xs.length < 1073741824 ∧ Pot H a m ∧ m < 100000 ∧ ∀ v H', v ∈ xs → Keeps a H H' → Pot H' a (m + 1) → Q v H'
theorem ok_of (F : Fun K "_law_of" "_law_of" sOf f fd) (GT : FnOk P w K mg base CX0 1 fT fdT ["_law_pot", "_law_size"] spTake) (kT : PySem.W.keepIn K (.ref fT) = true) (bT : Binds K fdT ["_law_pot", "_law_size"] []) (gT : mg "_law_take" = some (.ref fT)) (ml : mg "len" = none) :
    FnOk P w K mg base CX0 2 f fd ["_law_pot", "_law_some"] (spOf K) := by
  refine F.ok scOf (fun vs H Q E h => ?_) (fun cdv A outer s H vs Q E hr h => ?_)
  · obtain ⟨a, b, xs, m, rfl, _⟩ := h
    rfl
  · obtain ⟨a, b, xs, m, rfl, hS, h0, h1, hp, hm, q⟩ := h
    refine ⟨_, pss_one (ps_ret (pe_ix ix_list (pv 1) (pe_call GT hr (by rfl) gT kT bT .nil pass0 (pa_cons (pv 0) (pa_cons (pe_callB call_len_seq (by rfl) ml PySem.boot_len (pa_cons (pv 1) pa_nil)) pa_nil))) (fun _ _ => rfl))), ?_⟩
    refine ⟨.ref b, rfl, .ref a, rfl, .ref b, rfl, b, xs, rfl, .inl (hS H (Keeps.refl a H)), a, xs.length, m, rfl, h0, by omega, hp, hm, fun r H' hr1 kp hp' => ?_⟩
    refine ⟨b, xs, r, xs[r], rfl, rfl, hS H' kp, atI_nat (List.getElem?_eq_getElem hr1), ?_⟩
    exact q _ H' (List.getElem_mem hr1) kp hp'
end
end Bf
namespace Bf
open PySem PySem.Spec PyProof.Rows L2 LamX NdefX
theorem cat_any {K : PySem.W.Frag} {a b : Addr} {xs ys : List V} {H : Hp} {Q : VK} (ha : SqT K H a xs) (hb : SqT K H b ys) (hne : xs ≠ []) (hl : xs.length + ys.length ≤ sizeLine) (h : ∀ q H', Same H H' → SqT K H' q (xs ++ ys) → Q (.ref q) H') : rCatA K (.ref a) (.ref b) H Q :=
  ⟨a, b, xs, ys, rfl, rfl, ha, hb, hl, fun e => absurd e hne, fun _ e => h a H (Same.refl H) (by rw [e, List.append_nil]; exact ha), fun _ _ p np => h p _ (same_new (Same.refl H) np) (.inl (.inl upd_same))⟩
theorem rep_any {K : PySem.W.Frag} {l : Addr} {k : Nat} {kk : Int} {H : Hp} {Q : VK} (ek : kk = (k : Int)) (hT : SqT K H l [V.int 0]) (hk : k ≤ 1000) (h : ∀ q H', Same H H' → SqT K H' q (nv (List.replicate k 0)) → Q (.ref q) H') : rRepZ K (.ref l) (.int kk) H Q := by
  subst ek
  refine ⟨l, k, _, rfl, rfl, hT, by simp, by omega, by omega, by show 1 ≤ 1000; decide, fun e => ?_, fun _ p np => ?_⟩
  · have e : k = 1 := by omega
    subst e
    exact h l H (Same.refl H) hT
  · refine h p _ (same_new (Same.refl H) np) ?_
    rw [Int.toNat_natCast, rep_zero]
    exact .inl (.inl upd_same)
def vsL (p : Nat) (ns : List Nat) (m : Nat) : List Nat := (List.range m).map fun i => ev ns (i + 1) % p
theorem vsL_succ (p : Nat) (ns : List Nat) (m : Nat) : vsL p ns (m + 1) = vsL p ns m ++ [ev ns (m + 1) % p] := by
  unfold vsL
  rw [List.range_succ, List.map_append]
  rfl
theorem vsL_len (p : Nat) (ns : List Nat) (m : Nat) : (vsL p ns m).length = m := by
  unfold vsL
  rw [List.length_map, List.length_range]
theorem vsL_lt {p : Nat} {ns : List Nat} {m : Nat} (hp : 0 < p) : ∀ x ∈ vsL p ns m, x < p := by
  intro x hx
  unfold vsL at hx
  obtain ⟨i, _, rfl⟩ := List.mem_map.mp hx
  exact Nat.mod_lt _ hp
def moL (p c : Nat) (as bs : List Nat) : List Nat := (as.zip bs).map fun ab => (ab.1 + c * ab.2) % p
section
variable {P : Program} {w : World} {K : PySem.W.Frag} {mg : Str → Option Value} {base : Heap} {f fT fO fVa fCt : Addr} {fd fdT fdO fdVa fdCt : FuncData} {k : Nat}
/-! ### value, values -/
theorem scVa : FnScope ["p", "row", "x", "total", "number"] ["p", "row", "x"] (defScope sVal) := ⟨rfl, rfl, rfl, by decide +kernel, rfl, by decide +kernel, by decide +kernel⟩
def spVa (K : PySem.W.Frag) : Sp := fun vs H Q _ => ∃ (p x : Nat) (a : Addr) (ns : List Nat), vs = [.int p, .ref a, .int x] ∧ 0 < p ∧ p ≤ 1000000000 ∧ (∀ n ∈ ns, n < 2 ^ 61) ∧ SqT K H a (nv ns) ∧ Q (.int ((ev ns x % p : Nat) : Int)) H
theorem ok_va (F : Fun K "value" "value" sVal f fd) (mrv : mg "reversed" = none) : FnOk P w K mg base CX0 1 f fd ["p", "row", "x"] (spVa K) := by
  refine F.ok scVa (fun vs H Q E h => ?_) (fun cdv A outer s H vs Q E hr h => ?_)
  · obtain ⟨a, b, c, d, rfl, _⟩ := h
    rfl
  · obtain ⟨p, x, a, ns, rfl, hp, hp9, _, hS, fin⟩ := h
    refine ⟨_, pss_cons (ps_set (i := 3) scVa.nd rfl (.inl rfl) pe_int)
      (pss_cons (ps_for PassesOwn.never rfl (RT.pi_revA (by rfl) mrv (pv 1)) (pg_name (i := 4) scVa.nd rfl (.inl rfl))
        (pss_one (ps_set (i := 3) scVa.nd rfl (.inl rfl) (pe_op op_modNN (pe_op op_addN (pe_op op_mulNN (pv 3) (pv 2)) (pv 4)) (pv 0)))))
      (pss_one (ps_ret (pv 3)))), ?_⟩
    refine ⟨.ref a, rfl, a, nv ns, rfl, .inr ⟨hS, for_it (walk_revT (xs := nv ns)) (fun i σ H' => H' = H ∧ ∃ y4, σ = [some (.int p), some (.ref a), some (.int x), some (.int ((ev (ns.drop (ns.length - i)) x % p : Nat) : Int)), y4]) ⟨rfl, none, ?_⟩ ?_ ?_ ?_⟩⟩
    · rw [Nat.sub_zero, List.drop_length]
      show _ = [_, _, _, some (V.int ((0 % p : Nat) : Int)), none]
      rw [Nat.zero_mod]
      rfl
    · rintro i σ H' _ ⟨rfl, _⟩
      exact hS
    · rintro i v σ H1 H2 hi ⟨rfl, y4, rfl⟩ ⟨rfl, hv⟩
      rw [nv_len] at hi
      rw [nv_len] at hv
      have hlt : ns.length - 1 - i < ns.length := by omega
      have ev1 : v = .int ((ns[ns.length - 1 - i]'hlt : Nat) : Int) := by
        have := nv_at (List.getElem?_eq_getElem hlt)
        exact Option.some.inj (hv.symm.trans this)
      subst ev1
      have hd : ns.drop (ns.length - (i + 1)) = ns[ns.length - 1 - i]'hlt :: ns.drop (ns.length - i) := by
        rw [show ns.length - (i + 1) = ns.length - 1 - i by omega, List.drop_eq_getElem_cons hlt, show ns.length - 1 - i + 1 = ns.length - i by omega]
      have hb : ev (ns.drop (ns.length - i)) x % p < p := Nat.mod_lt _ hp
      refine ⟨.int ((ev (ns.drop (ns.length - i)) x % p : Nat) : Int), rfl, .int x, rfl, ev (ns.drop (ns.length - i)) x % p, x, rfl, rfl, by omega, .int ((ns[ns.length - 1 - i]'hlt : Nat) : Int), rfl, ev (ns.drop (ns.length - i)) x % p * x, ns[ns.length - 1 - i]'hlt, rfl, rfl, .int p, rfl, _, p, rfl, rfl, hp, rfl, some (V.int ((ns[ns.length - 1 - i]'hlt : Nat) : Int)), ?_⟩
      rw [ev_step, ← hd]
      rfl
    · rintro σ H' ⟨rfl, y4, rfl⟩
      refine ⟨_, rfl, ?_⟩
      rw [nv_len, Nat.sub_self, List.drop_zero]
      exact fin
theorem scVs : FnScope ["p", "row", "many", "x"] ["p", "row", "many"] (defScope sVals) := ⟨rfl, rfl, rfl, by decide +kernel, rfl, by decide +kernel, by decide +kernel⟩
def spVs (K : PySem.W.Frag) : Sp := fun vs H Q _ => ∃ (p m : Nat) (a : Addr) (ns : List Nat), vs = [.int p, .ref a, .int m] ∧ 0 < p ∧ p ≤ 1000000000 ∧ m ≤ 100 ∧ (∀ n ∈ ns, n < 2 ^ 61) ∧ H a = some (.tup (nv ns)) ∧ ∀ H' q, Same H H' → H' q = some (.tup (nv (vsL p ns m))) → Q (.ref q) H'
theorem ok_vs (F : Fun K "values" "values" sVals f fd) (GVa : FnOk P w K mg base CX0 1 fVa fdVa ["p", "row", "x"] (spVa K)) (kVa : PySem.W.keepIn K (.ref fVa) = true) (bVa : Binds K fdVa ["p", "row", "x"] []) (gVa : mg "value" = some (.ref fVa)) (mr : mg "range" = none) (mt : mg "tuple" = none) : FnOk P w K mg base CX0 2 f fd ["p", "row", "many"] (spVs K) := by
  refine F.ok scVs (fun vs H Q E h => ?_) (fun cdv A outer s H vs Q E hr h => ?_)
  · obtain ⟨a, b, c, d, rfl, _⟩ := h
    rfl
  · obtain ⟨p, m, a, ns, rfl, hp, hp9, hm, hns, hS, fin⟩ := h
    refine ⟨_, pss_one (ps_ret (pe_callTy call_tuple_of (by rfl) mt (by decide +kernel) (pa_cons (pe_lc (own := [("x", 3)]) (g := gName 3) (te := tCall (spVa K) [] E0 (tCons (tVar 0) (tCons (tVar 1) (tCons (tVar 3) tNil)))) (by rfl) scVs.nd (pi_range2 (by rfl) mr (pa_cons pe_int (pa_cons (pe_op op_addN (pv 2) pe_int) pa_nil)))
      (blkOk_by (own := [("x", 3)]) (N := ["p", "row", "many", "x"]) (sc := defScope sVals) (by decide +kernel)) (fun _ _ _ _ _ => pg_name (i := 3) scVs.nd rfl (Or.inl rfl))
      (fun _ _ _ _ _ => pts_nil) (fun _ _ _ _ _ => pe_call GVa hr (by rfl) gVa kVa bVa .nil pass0 (pa_cons (pv 0) (pa_cons (pv 1) (pa_cons (pv 3) pa_nil))))) pa_nil))), ?_⟩
    refine ⟨.int m, rfl, m, 1, rfl, rfl, 1, (m + 1 : Nat), rfl, ⟨by omega, by omega, by omega, by omega⟩, fun D nD => lc_range (lo := 1) (fun i H' => Same H H' ∧ H' D = some (.lst (nv (vsL p ns i)))) ⟨same_new (Same.refl H) nD, upd_same⟩ ?_ ?_⟩
    · rintro i H1 hi ⟨s1, eD⟩
      have e1 : (1 : Int) + (i : Int) = ((i + 1 : Nat) : Int) := by omega
      rw [e1]
      refine ⟨rfl, yes ⟨.int p, rfl, .ref a, rfl, .int ((i + 1 : Nat) : Int), rfl, p, i + 1, a, ns, rfl, hp, hp9, hns, .inl (.inl (s1 _ _ hS)), _, eD, ?_, fun b o z => ?_, ?_⟩⟩
      · rw [nv_len, vsL_len]
        exact small1000 (by omega)
      · rw [upd_ne (ne_of_none z nD)]
        exact s1 b o z
      · rw [upd_same, vsL_succ]
        simp [nv]
    · rintro H1 ⟨s1, eD⟩
      rw [show (((m + 1 : Nat) : Int) - 1).toNat = m by omega] at eD
      refine ⟨D, _, rfl, .inl ⟨.inl (.inl eD), fun q nq => ?_⟩⟩
      exact fin _ q (same_new s1 nq) upd_same
/-! ### by powers -/
theorem scCt : FnScope ["_law_prime", "_law_line", "_law_spot", "_law_found", "_law_power", "_law_one"] ["_law_prime", "_law_line", "_law_spot"] (defScope sCt) := ⟨rfl, rfl, rfl, by decide +kernel, rfl, by decide +kernel, by decide +kernel⟩
def spCt (K : PySem.W.Frag) : Sp := fun vs H Q _ => ∃ (p x : Nat) (a : Addr) (ns : List Nat), vs = [.int p, .ref a, .int x] ∧ 2 ≤ p ∧ p ≤ 1000000000 ∧ (∀ n ∈ ns, n < 2 ^ 61) ∧ H a = some (.tup (nv ns)) ∧ ∀ H', Same H H' → Q (.int ((ev ns x % p : Nat) : Int)) H'
theorem ok_ct (F : Fun K "_law_comes_to" "_law_comes_to" sCt f fd) : FnOk P w K mg base CX0 1 f fd ["_law_prime", "_law_line", "_law_spot"] (spCt K) := by
  refine F.ok scCt (fun vs H Q E h => ?_) (fun cdv A outer s H vs Q E hr h => ?_)
  · obtain ⟨a, b, c, d, rfl, _⟩ := h
    rfl
  · obtain ⟨p, x, a, ns, rfl, hp2, hp9, hns, hS, fin⟩ := h
    refine ⟨_, pss_cons (ps_asg (pe_tup (pa_cons pe_int (pa_cons pe_int pa_nil))) (pg_tup (by rfl) (pgs_cons (pg_name (i := 3) scCt.nd rfl (.inl rfl)) (pgs_cons (pg_name (i := 4) scCt.nd rfl (.inl rfl)) pgs_nil))))
      (pss_cons (ps_for PassesOwn.never rfl (pi_tup (pv 1)) (pg_name (i := 5) scCt.nd rfl (.inl rfl))
        (pss_cons (ps_set (i := 3) scCt.nd rfl (.inl rfl) (pe_op op_modNN (pe_op op_addN (pv 3) (pe_op op_mulNN (pv 5) (pv 4))) (pv 0)))
        (pss_one (ps_set (i := 4) scCt.nd rfl (.inl rfl) (pe_op op_modNN (pe_op op_mulNN (pv 4) (pv 2)) (pv 0))))))
      (pss_one (ps_ret (pv 3)))), ?_⟩
    have hp : 0 < p := by omega
    refine ⟨(by show 2 ≤ sizeLine; decide), fun Tp nT => ⟨Tp, _, rfl, .inl (.inl upd_same), rfl, _, _, rfl, _, _, rfl, rfl, ?_⟩⟩
    have sT : Same H (upd H Tp (.tup [V.int 0, V.int 1])) := same_new (Same.refl H) nT
    have hS := sT _ _ hS
    generalize upd H Tp (.tup [V.int 0, V.int 1]) = H0 at sT hS
    refine ⟨.ref a, rfl, a, rfl, ⟨_, .inl (.inl hS)⟩, for_tup (xs := nv ns) (fun i σ H' => H' = H0 ∧ ∃ y5, σ = [some (.int p), some (.ref a), some (.int x), some (.int ((ev (ns.take i) x % p : Nat) : Int)), some (.int ((x ^ i % p : Nat) : Int)), y5]) ⟨rfl, none, ?_⟩ ?_ ?_ ?_⟩
    · show _ = [_, _, _, some (V.int ((0 % p : Nat) : Int)), some (V.int ((1 % p : Nat) : Int)), none]
      rw [Nat.zero_mod, Nat.mod_eq_of_lt (by omega)]
      rfl
    · rintro i σ H' _ ⟨rfl, _⟩
      exact .inl (.inl hS)
    · rintro i v σ H1 hv ⟨rfl, y5, rfl⟩
      have hlt : i < ns.length := by
        have := (List.getElem?_eq_some_iff.mp hv).1
        rw [nv_len] at this
        exact this
      have ev1 : v = .int ((ns[i]'hlt : Nat) : Int) := Option.some.inj (hv.symm.trans (nv_at (List.getElem?_eq_getElem hlt)))
      subst ev1
      have hn := hns _ (List.getElem_mem hlt)
      have hb : ev (ns.take i) x % p < p := Nat.mod_lt _ hp
      have hb2 : x ^ i % p < p := Nat.mod_lt _ hp
      have ht : ns.take (i + 1) = ns.take i ++ [ns[i]'hlt] := by rw [List.take_add_one, List.getElem?_eq_getElem hlt]; rfl
      have hl : (ns.take i).length = i := by rw [List.length_take]; omega
      have e1 := ev_pow (p := p) (x := x) (a := ns[i]'hlt) (as := ns.take i)
      rw [hl] at e1
      refine ⟨.int ((ev (ns.take i) x % p : Nat) : Int), rfl, .int ((ns[i]'hlt : Nat) : Int), rfl, .int ((x ^ i % p : Nat) : Int), rfl, ns[i]'hlt, x ^ i % p, rfl, rfl, by omega, ev (ns.take i) x % p, ns[i]'hlt * (x ^ i % p), rfl, rfl, .int p, rfl, _, p, rfl, rfl, hp, ?_⟩
      refine ⟨.int ((x ^ i % p : Nat) : Int), rfl, .int x, rfl, x ^ i % p, x, rfl, rfl, by omega, .int p, rfl, _, p, rfl, rfl, hp, rfl, some (V.int ((ns[i]'hlt : Nat) : Int)), ?_⟩
      rw [e1, ← ht, pow_step]
      rfl
    · rintro σ H' ⟨rfl, y5, rfl⟩
      refine ⟨_, rfl, ?_⟩
      rw [nv_len, List.take_length]
      exact fin _ sT
end
end Bf
namespace Bf
open PySem PySem.Spec PyProof.Rows L2 LamX NdefX
theorem sqT_same {K : PySem.W.Frag} {H H' : Hp} {a : Addr} {xs : List V} (h : SqT K H a xs) (s : Same H H') : SqT K H' a xs := by
  rcases h with (h | ⟨o, h⟩) | h
  · exact .inl (.inl (s _ _ h))
  · exact .inl (.inr ⟨o, s _ _ h⟩)
  · exact .inr h
def prL : List Nat := [2, 3, 5, 7, 11, 13, 31, 61, 67, 101, 997, 65537, 999999893, 999999937]
theorem prL_ok : ∀ p ∈ prL, 2 ≤ p ∧ p ≤ 1000000000 := by decide
section
variable {P : Program} {w : World} {K : PySem.W.Frag} {mg : Str → Option Value} {base : Heap} {f fT fO fVa fCt : Addr} {fd fdT fdO fdVa fdCt : FuncData} {k : Nat}
/-! ### first ones -/
theorem scFo : FnScope ["_law_prime", "_law_line", "_law_wide", "_law_spot"] ["_law_prime", "_law_line", "_law_wide"] (defScope sFo) := ⟨rfl, rfl, rfl, by decide +kernel, rfl, by decide +kernel, by decide +kernel⟩
def spFo (K : PySem.W.Frag) : Sp := fun vs H Q _ => ∃ (p m : Nat) (a : Addr) (ns : List Nat), vs = [.int p, .ref a, .int m] ∧ 2 ≤ p ∧ p ≤ 1000000000 ∧ m ≤ 100 ∧ (∀ n ∈ ns, n < 2 ^ 61) ∧ H a = some (.tup (nv ns)) ∧ ∀ H' q, Same H H' → H' q = some (.tup (nv (vsL p ns m))) → Q (.ref q) H'
theorem ok_fo (F : Fun K "_law_first_ones" "_law_first_ones" sFo f fd) (GCt : FnOk P w K mg base CX0 1 fCt fdCt ["_law_prime", "_law_line", "_law_spot"] (spCt K)) (kCt : PySem.W.keepIn K (.ref fCt) = true) (bCt : Binds K fdCt ["_law_prime", "_law_line", "_law_spot"] []) (gCt : mg "_law_comes_to" = some (.ref fCt)) (mr : mg "range" = none) (mt : mg "tuple" = none) : FnOk P w K mg base CX0 2 f fd ["_law_prime", "_law_line", "_law_wide"] (spFo K) := by
  refine F.ok scFo (fun vs H Q E h => ?_) (fun cdv A outer s H vs Q E hr h => ?_)
  · obtain ⟨a, b, c, d, rfl, _⟩ := h
    rfl
  · obtain ⟨p, m, a, ns, rfl, hp, hp9, hm, hns, hS, fin⟩ := h
    refine ⟨_, pss_one (ps_ret (pe_callTy call_tuple_of (by rfl) mt (by decide +kernel) (pa_cons (pe_lc (own := [("_law_spot", 3)]) (g := gName 3) (te := tCall (spCt K) [] E0 (tCons (tVar 0) (tCons (tVar 1) (tCons (tVar 3) tNil)))) (by rfl) scFo.nd (pi_range2 (by rfl) mr (pa_cons pe_int (pa_cons (pe_op op_addN (pv 2) pe_int) pa_nil)))
      (blkOk_by (own := [("_law_spot", 3)]) (N := ["_law_prime", "_law_line", "_law_wide", "_law_spot"]) (sc := defScope sFo) (by decide +kernel)) (fun _ _ _ _ _ => pg_name (i := 3) scFo.nd rfl (Or.inl rfl))
      (fun _ _ _ _ _ => pts_nil) (fun _ _ _ _ _ => pe_call GCt hr (by rfl) gCt kCt bCt .nil pass0 (pa_cons (pv 0) (pa_cons (pv 1) (pa_cons (pv 3) pa_nil))))) pa_nil))), ?_⟩
    refine ⟨.int m, rfl, m, 1, rfl, rfl, 1, (m + 1 : Nat), rfl, ⟨by omega, by omega, by omega, by omega⟩, fun D nD => lc_range (lo := 1) (fun i H' => Same H H' ∧ H' D = some (.lst (nv (vsL p ns i)))) ⟨same_new (Same.refl H) nD, upd_same⟩ ?_ ?_⟩
    · rintro i H1 hi ⟨s1, eD⟩
      have e1 : (1 : Int) + (i : Int) = ((i + 1 : Nat) : Int) := by omega
      rw [e1]
      refine ⟨rfl, yes ⟨.int p, rfl, .ref a, rfl, .int ((i + 1 : Nat) : Int), rfl, p, i + 1, a, ns, rfl, hp, hp9, hns, s1 _ _ hS, fun H2 s2 => ⟨_, s2 _ _ eD, ?_, fun b o z => ?_, ?_⟩⟩⟩
      · rw [nv_len, vsL_len]
        exact small1000 (by omega)
      · rw [upd_ne (ne_of_none z nD)]
        exact s2 _ _ (s1 b o z)
      · rw [upd_same, vsL_succ]
        simp [nv]
    · rintro H1 ⟨s1, eD⟩
      rw [show (((m + 1 : Nat) : Int) - 1).toNat = m by omega] at eD
      refine ⟨D, _, rfl, .inl ⟨.inl (.inl eD), fun q nq => ?_⟩⟩
      exact fin _ q (same_new s1 nq) upd_same
/-! ### a field -/
theorem scFi : FnScope ["_law_pot", "_law_wide", "_law_some", "_law_one"] ["_law_pot", "_law_wide"] (defScope sFi) := ⟨rfl, rfl, rfl, by decide +kernel, rfl, by decide +kernel, by decide +kernel⟩
def spFi : Sp := fun vs H Q _ => ∃ (a : Addr) (wd m : Nat), vs = [.ref a, .int wd] ∧ wd ≤ 60 ∧ Pot H a m ∧ m < 90000 ∧ ∀ p H', p ∈ prL → wd < p → Keeps a H H' → Pot H' a (m + 1) → Q (.int (p : Nat)) H'
theorem ok_fi (F : Fun K "_law_field" "_law_field" sFi f fd) (GO : FnOk P w K mg base CX0 2 fO fdO ["_law_pot", "_law_some"] (spOf K)) (kO : PySem.W.keepIn K (.ref fO) = true) (bO : Binds K fdO ["_law_pot", "_law_some"] []) (gO : mg "_law_of" = some (.ref fO)) : FnOk P w K mg base CX0 3 f fd ["_law_pot", "_law_wide"] spFi := by
  refine F.ok scFi (fun vs H Q E h => ?_) (fun cdv A outer s H vs Q E hr h => ?_)
  · obtain ⟨a, b, c, rfl, _⟩ := h
    rfl
  · obtain ⟨a, wd, m, rfl, hw, pp, hm, fin⟩ := h
    refine ⟨_, pss_cons (ps_set (i := 2) scFi.nd rfl (.inl rfl) (pe_lst (pa_cons pe_int (pa_cons pe_int (pa_cons pe_int (pa_cons pe_int (pa_cons pe_int (pa_cons pe_int (pa_cons pe_int (pa_cons pe_int (pa_cons pe_int (pa_cons pe_int (pa_cons pe_int (pa_cons pe_int (pa_cons pe_int (pa_cons pe_int pa_nil))))))))))))))))
      (pss_one (ps_ret (pe_call GO hr (by rfl) gO kO bO .nil pass0 (pa_cons (pv 0) (pa_cons (pe_lc (own := [("_law_one", 3)]) (g := gName 3) (by rfl) scFi.nd (pi_list (pv 2))
        (blkOk_by (own := [("_law_one", 3)]) (N := ["_law_pot", "_law_wide", "_law_some", "_law_one"]) (sc := defScope sFi) (by decide +kernel)) (fun _ _ _ _ _ => pg_name (i := 3) scFi.nd rfl (Or.inl rfl))
        (fun _ _ _ _ _ => pts_one (pt_cmpR op_gt (pv 3) (pv 1) (nomark _))) (fun _ _ _ _ _ => pv 3)) pa_nil))))), ?_⟩
    refine ⟨(by show 14 ≤ sizeLine; decide), fun L nL => ?_⟩
    have eL : (upd H L (.lst (nv prL))) L = some (.lst (nv prL)) := upd_same
    have p1 := pp.new (o := .lst (nv prL)) nL
    have k1 : Keeps a H (upd H L (.lst (nv prL))) := (Keeps.refl a H).new nL
    refine ⟨.ref a, rfl, .ref L, rfl, L, rfl, ⟨_, .inl (.inl eL)⟩, fun D nD => lc_list (xs := nv prL) (fun i H' => Same (upd H L (.lst (nv prL))) H' ∧ H' D = some (.lst (nv ((prL.take i).filter fun x => decide (wd < x))))) ⟨same_new (Same.refl _) nD, upd_same⟩ (fun i H' _ z => .inl (.inl (z.1 _ _ eL))) ?_ ?_⟩
    · rintro i v H1 hv ⟨s1, eD⟩
      have hlt : i < prL.length := by
        have := (List.getElem?_eq_some_iff.mp hv).1
        rw [nv_len] at this
        exact this
      have ev1 : v = .int ((prL[i]'hlt : Nat) : Int) := Option.some.inj (hv.symm.trans (nv_at (List.getElem?_eq_getElem hlt)))
      subst ev1
      have ht : prL.take (i + 1) = prL.take i ++ [prL[i]'hlt] := by rw [List.take_add_one, List.getElem?_eq_getElem hlt]; rfl
      refine ⟨rfl, _, rfl, .int wd, rfl, _, _, rfl, rfl, _, rfl, ite2 (fun e => ?_) (fun e => ⟨s1, ?_⟩)⟩
      · have e1 : wd < prL[i]'hlt := by have := of_decide_eq_true e; omega
        refine ⟨_, rfl, _, eD, ?_, fun b o z => ?_, ?_⟩
        · rw [nv_len]
          have h1 := List.length_filter_le (fun x => decide (wd < x)) (prL.take i)
          have h2 : (prL.take i).length ≤ 14 := by rw [List.length_take]; show min i 14 ≤ 14; omega
          exact small1000 (by omega)
        · rw [upd_ne (ne_of_none z nD)]
          exact s1 b o z
        · rw [upd_same, ht, List.filter_append]
          simp [nv, e1]
      · have e1 : ¬ wd < prL[i]'hlt := fun z => e (decide_eq_true (by omega))
        rw [eD, ht, List.filter_append]
        simp [e1]
    · rintro H1 ⟨s1, eD⟩
      have eD : H1 D = some (.lst (nv (prL.filter fun x => decide (wd < x)))) := eD
      have hDa : D ≠ a := pot_ne p1 nD
      have hmem : 999999937 ∈ prL.filter fun x => decide (wd < x) := List.mem_filter.mpr ⟨by decide, decide_eq_true (by omega)⟩
      refine ⟨a, D, _, m, rfl, fun H' kp => .inl (.inl (kp D _ hDa eD)), ?_, ?_, p1.same s1, by omega, fun v H2 hv k2 p2 => ?_⟩
      · rw [nv_len]
        exact List.length_pos_of_mem hmem
      · rw [nv_len]
        have h1 := List.length_filter_le (fun x => decide (wd < x)) prL
        have h2 : prL.length = 14 := rfl
        omega
      · unfold nv at hv
        obtain ⟨p, hp, rfl⟩ := List.mem_map.mp hv
        obtain ⟨h1, h2⟩ := List.mem_filter.mp hp
        exact fin p H2 h1 (of_decide_eq_true h2) ((k1.trans (Keeps.of_same s1)).trans k2) p2
/-! ### numbers of a field -/
theorem scNu : FnScope ["_law_pot", "_law_prime", "_law_size", "_law_turn"] ["_law_pot", "_law_prime", "_law_size"] (defScope sNu) := ⟨rfl, rfl, rfl, by decide +kernel, rfl, by decide +kernel, by decide +kernel⟩
def spNu : Sp := fun vs H Q _ => ∃ (a : Addr) (p n m : Nat), vs = [.ref a, .int p, .int n] ∧ 2 ≤ p ∧ p ≤ 1000000000 ∧ n ≤ 100 ∧ Pot H a m ∧ m < 80000 ∧ ∀ H' q ns, Keeps a H H' → Pot H' a (m + 2 * n) → q ≠ a → H' q = some (.tup (nv ns)) → ns.length = n → (∀ x ∈ ns, x < p) → Q (.ref q) H'
theorem ok_nu (F : Fun K "_law_numbers" "_law_numbers" sNu f fd) (GT' : FnOk P w K mg base CX0 1 fT fdT ["_law_pot", "_law_size"] spTake) (kT : PySem.W.keepIn K (.ref fT) = true) (bT : Binds K fdT ["_law_pot", "_law_size"] []) (gT : mg "_law_take" = some (.ref fT))
    (GO : FnOk P w K mg base CX0 2 fO fdO ["_law_pot", "_law_some"] (spOf K)) (kO : PySem.W.keepIn K (.ref fO) = true) (bO : Binds K fdO ["_law_pot", "_law_some"] []) (gO : mg "_law_of" = some (.ref fO)) (mr : mg "range" = none) (mt : mg "tuple" = none) : FnOk P w K mg base CX0 3 f fd ["_law_pot", "_law_prime", "_law_size"] spNu := by
  refine F.ok scNu (fun vs H Q E h => ?_) (fun cdv A outer s H vs Q E hr h => ?_)
  · obtain ⟨a, b, c, d, rfl, _⟩ := h
    rfl
  · obtain ⟨a, p, n, m, rfl, hp, hp9, hn, pp, hm, fin⟩ := h
    refine ⟨_, pss_one (ps_ret (pe_callTy call_tuple_of (by rfl) mt (by decide +kernel) (pa_cons (pe_lc (own := [("_law_turn", 3)]) (g := gName 3) (te := tCall (spOf K) [] E0 (tCons (tVar 0) (tCons (tLst (tCons (tC (.int 0)) (tCons (tC (.int 1)) (tCons (tOp _ (tVar 1) (tC (.int 1))) (tCons (tCall spTake [] E0 (tCons (tVar 0) (tCons (tVar 1) tNil))) tNil))))) tNil))) (by rfl) scNu.nd (pi_range1 (by rfl) mr (pa_cons (pv 2) pa_nil))
      (blkOk_by (own := [("_law_turn", 3)]) (N := ["_law_pot", "_law_prime", "_law_size", "_law_turn"]) (sc := defScope sNu) (by decide +kernel)) (fun _ _ _ _ _ => pg_name (i := 3) scNu.nd rfl (Or.inl rfl))
      (fun _ _ _ _ _ => pts_nil) (fun _ _ _ _ _ => pe_call GO hr (by rfl) gO kO bO .nil pass0 (pa_cons (pv 0) (pa_cons (pe_lst (pa_cons pe_int (pa_cons pe_int (pa_cons (pe_op op_subN (pv 1) pe_int) (pa_cons (pe_call GT' (hr.mono (by decide)) (by rfl) gT kT bT .nil pass0 (pa_cons (pv 0) (pa_cons (pv 1) pa_nil))) pa_nil))))) pa_nil)))) pa_nil))), ?_⟩
    refine ⟨.int n, rfl, _, rfl, by omega, by omega, fun D nD => lc_range (lo := 0) (fun i H' => Keeps a H H' ∧ Pot H' a (m + 2 * i) ∧ ∃ ns : List Nat, H' D = some (.lst (nv ns)) ∧ ns.length = i ∧ ∀ x ∈ ns, x < p) ⟨(Keeps.refl a H).new nD, pp.new nD, [], upd_same, rfl, fun x hx => absurd hx List.not_mem_nil⟩ ?_ ?_⟩
    · rintro i H1 hi ⟨k1, p1, ns, eD, hl, hx⟩
      have hDa : D ≠ a := pot_ne pp nD
      refine ⟨rfl, yes ?_⟩
      refine ⟨.ref a, rfl, .int p, rfl, p, 1, rfl, rfl, by omega, .ref a, rfl, .int p, rfl, a, p, m + 2 * i, rfl, by omega, by omega, p1, by omega, fun r H2 lr k2 p2 => ?_⟩
      refine ⟨(by show 4 ≤ sizeLine; decide), fun L nL => ?_⟩
      refine ⟨a, L, _, m + 2 * i + 1, rfl, fun H' kp => .inl (.inl (kp L _ (pot_ne p2 nL) upd_same)), (by show 0 < 4; decide), (by show 4 < 1073741824; decide), p2.new nL, by omega, fun v H3 hv k3 p3 => ?_⟩
      obtain ⟨c, rfl, hc⟩ : ∃ c : Nat, v = .int (c : Int) ∧ c < p := by
        simp only [List.mem_cons, List.not_mem_nil, or_false] at hv
        rcases hv with rfl | rfl | rfl | rfl
        · exact ⟨0, rfl, by omega⟩
        · exact ⟨1, rfl, by omega⟩
        · exact ⟨p - 1, rfl, by omega⟩
        · exact ⟨r, rfl, lr⟩
      have k13 : Keeps a H1 H3 := (k2.new nL).trans k3
      have eD3 := k13 _ _ hDa eD
      refine ⟨_, eD3, by rw [nv_len, hl]; exact small1000 (by omega), fun b o nb z => ?_, ?_, ns ++ [c], ?_, ?_, ?_⟩
      · rw [upd_ne (ne_of_none z nD)]
        exact k13 b o nb (k1 b o nb z)
      · obtain ⟨x, y, z, hH, hh⟩ := p3
        exact ⟨x, y, z, by rw [upd_ne (Ne.symm hDa)]; exact hH, by omega⟩
      · rw [upd_same]
        simp [nv]
      · rw [List.length_append, hl]
        rfl
      · intro x hx'
        rcases List.mem_append.mp hx' with h' | h'
        · exact hx x h'
        · rw [List.mem_singleton.mp h']
          exact hc
    · rintro H1 ⟨k1, p1, ns, eD, hl, hx⟩
      refine ⟨D, _, rfl, .inl ⟨.inl (.inl eD), fun q nq => ?_⟩⟩
      exact fin _ q ns (k1.new nq) (p1.new nq) (pot_ne p1 nq) upd_same hl hx
/-! ### rows put together -/
end
end Bf
namespace Bf
open PySem PySem.Spec PyProof.Rows L2 LamX NdefX
/-! ### who is between -/
def Bt (q d j e : Nat) : Prop := ∃ i, 1 ≤ i ∧ i < (cl q d j).length ∧ wf 0 ((cl q d j).take i) = e
def OnW (q d e j : Nat) : Prop := e.testBit j = true ∧ ∀ x y, x < q → e.testBit y = true → ar q j x ≤ ar q j y → x ≠ j → e.testBit x = d.testBit x
theorem tp_mem {q d j x : Nat} (hj : j < q) : x ∈ tp q d j (q - 1) ↔ x < q ∧ x ≠ j ∧ d.testBit x = true := by
  unfold tp
  rw [List.mem_filter, List.mem_map]
  constructor
  · rintro ⟨⟨i, hi, rfl⟩, hb⟩
    have hi := List.mem_range.mp hi
    refine ⟨Nat.mod_lt _ (by omega), fun e => ?_, hb⟩
    have h1 := ar_at (q := q) (i := 1 + i) j (by omega)
    rw [e, ar_self] at h1
    omega
  · rintro ⟨hx, hne, hb⟩
    obtain ⟨i, hi, e⟩ := at_of j hx
    have h0 : i ≠ 0 := fun z => hne (by rw [← e, z, Nat.add_zero, Nat.mod_eq_of_lt hj])
    exact ⟨⟨i - 1, List.mem_range.mpr (by omega), by rw [show 1 + (i - 1) = i by omega]; exact e⟩, hb⟩
theorem tp_sorted {q d j : Nat} (hj : j < q) : (tp q d j (q - 1)).Pairwise (fun a b => ar q j a < ar q j b) := by
  have h := rb_sorted q d j
  rw [rb_split hj] at h
  exact (List.pairwise_append.mp h).2.1
theorem cut_sorted {α : Type} {key : α → Int} {P : α → Bool} : ∀ {l : List α}, l.Pairwise (fun a b => key a < key b) → (∀ x y, x ∈ l → y ∈ l → key x < key y → P y = true → P x = true) → l.filter P = l.take (l.filter P).length
  | [], _, _ => rfl
  | a :: l, hs, hc => by
    obtain ⟨h1, h2⟩ := List.pairwise_cons.mp hs
    have ih := cut_sorted (P := P) h2 fun x y hx hy => hc x y (List.mem_cons_of_mem _ hx) (List.mem_cons_of_mem _ hy)
    cases e : P a with
    | true =>
      rw [List.filter_cons_of_pos e, List.length_cons, List.take_succ_cons, ← ih]
    | false =>
      have hn : l.filter P = [] := List.filter_eq_nil_iff.mpr fun y hy z => by
        have := hc a y List.mem_cons_self (List.mem_cons_of_mem _ hy) (h1 y hy) z
        rw [e] at this
        cases this
      rw [List.filter_cons_of_neg (by rw [e]; decide), hn]
      rfl
theorem take_nodup {q d j i : Nat} (hj : j < q) : (j :: (tp q d j (q - 1)).take i).Nodup := by
  refine List.nodup_cons.mpr ⟨fun h => ?_, ?_⟩
  · exact ((tp_mem hj).mp (List.mem_of_mem_take h)).2.1 rfl
  · exact ((tp_sorted hj).imp fun {a b} h e => by rw [e] at h; omega).sublist (List.take_sublist _ _)
theorem cl_take {q d j i : Nat} (hi : i ≤ (tp q d j (q - 1)).length) : (cl q d j).take (i + 1) = j :: (tp q d j (q - 1)).take i := by
  unfold cl
  rw [List.cons_append, List.take_succ_cons, List.take_append_of_le_length hi]
theorem bt_iff {q d j e : Nat} (hj : j < q) (hd : d < 2 ^ q) (he : e < 2 ^ q) : Bt q d j e ↔ OnW q d e j ∧ e ≠ d := by
  constructor
  · rintro ⟨i, h1, h2, rfl⟩
    have hi : i - 1 ≤ (tp q d j (q - 1)).length := by
      unfold cl at h2
      rw [List.length_append, List.length_cons] at h2
      split at h2
      · have : i < (tp q d j (q - 1)).length + 1 + 0 := h2
        omega
      · have : i < (tp q d j (q - 1)).length + 1 + 1 := h2
        omega
    have ei : i = i - 1 + 1 := by omega
    have ec : (cl q d j).take i = j :: (tp q d j (q - 1)).take (i - 1) := by
      rw [ei]
      exact cl_take hi
    have hb : ∀ x, (wf 0 ((cl q d j).take i)).testBit x = decide (x ∈ j :: (tp q d j (q - 1)).take (i - 1)) := fun x => by
      rw [ec]
      exact wf_bit (take_nodup hj)
    refine ⟨⟨by rw [hb]; exact decide_eq_true List.mem_cons_self, fun x y hx hy hxy hne => ?_⟩, fun e => ?_⟩
    · rw [hb]
      rw [hb] at hy
      have hy := of_decide_eq_true hy
      cases b : d.testBit x with
      | false =>
        refine decide_eq_false fun h => ?_
        rcases List.mem_cons.mp h with h | h
        · exact hne h
        · have := ((tp_mem hj).mp (List.mem_of_mem_take h)).2.2
          rw [b] at this
          cases this
      | true =>
        refine decide_eq_true (List.mem_cons_of_mem _ ?_)
        have hmx := (tp_mem hj).mpr ⟨hx, hne, b⟩
        have hyy : y ∈ (tp q d j (q - 1)).take (i - 1) := by
          rcases List.mem_cons.mp hy with h | h
          · exfalso
            rw [h, ar_self] at hxy
            have h0 := ar_nn (q := q) (j := j) (x := x) (by omega)
            exact hne (ar_inj (j := j) hx hj (by rw [ar_self]; omega))
          · exact h
        have hs := tp_sorted (d := d) hj
        rw [← List.take_append_drop (i - 1) (tp q d j (q - 1))] at hmx hs
        rcases List.mem_append.mp hmx with h | h
        · exact h
        · have := (List.pairwise_append.mp hs).2.2 y hyy x h
          omega
    · by_cases b : d.testBit j = true
      · have hlen : (cl q d j).length = (tp q d j (q - 1)).length + 1 := by
          unfold cl
          rw [List.length_append, List.length_cons, if_pos b]
          rfl
        have hlt : i - 1 < (tp q d j (q - 1)).length := by omega
        have hm : (tp q d j (q - 1))[i - 1] ∈ tp q d j (q - 1) := List.getElem_mem hlt
        obtain ⟨m1, m2, m3⟩ := (tp_mem hj).mp hm
        have hbx := hb (tp q d j (q - 1))[i - 1]
        rw [e, m3] at hbx
        have hin := of_decide_eq_true hbx.symm
        rcases List.mem_cons.mp hin with h | h
        · exact m2 h
        · obtain ⟨k, hk, ek⟩ := List.mem_iff_getElem.mp h
          rw [List.length_take] at hk
          rw [List.getElem_take] at ek
          have hs := List.pairwise_iff_getElem.mp (tp_sorted (d := d) hj) k (i - 1) (by omega) hlt (by omega)
          rw [ek] at hs
          omega
      · have := hb j
        rw [e] at this
        rw [decide_eq_true List.mem_cons_self] at this
        exact b this
  · rintro ⟨⟨hj1, hc⟩, hne⟩
    have hcut := cut_sorted (P := fun x => e.testBit x) (tp_sorted (d := d) hj) fun x y hx hy hk hP => by
      obtain ⟨x1, x2, x3⟩ := (tp_mem hj).mp hx
      have := hc x y x1 hP (by omega) x2
      rw [this]
      exact x3
    have hle : ((tp q d j (q - 1)).filter fun x => e.testBit x).length ≤ (tp q d j (q - 1)).length := List.length_filter_le _ _
    generalize hn : ((tp q d j (q - 1)).filter fun x => e.testBit x).length = n at hcut hle
    have hbits : wf 0 (j :: (tp q d j (q - 1)).take n) = e := by
      refine Nat.eq_of_testBit_eq fun x => ?_
      rw [wf_bit (take_nodup hj), ← hcut]
      cases b : e.testBit x with
      | true =>
        refine decide_eq_true ?_
        by_cases ex : x = j
        · rw [ex]
          exact List.mem_cons_self
        · have hx := lt_of_bit he b
          have := hc x x hx b (Int.le_refl _) ex
          exact List.mem_cons_of_mem _ (List.mem_filter.mpr ⟨(tp_mem hj).mpr ⟨hx, ex, by rw [← this]; exact b⟩, b⟩)
      | false =>
        refine decide_eq_false fun h => ?_
        rcases List.mem_cons.mp h with h | h
        · rw [h, hj1] at b
          cases b
        · have := (List.mem_filter.mp h).2
          rw [b] at this
          cases this
    refine ⟨n + 1, by omega, ?_, by rw [cl_take hle]; exact hbits⟩
    unfold cl
    rw [List.length_append, List.length_cons]
    by_cases b : d.testBit j = true
    · rw [if_pos b]
      show n + 1 < (tp q d j (q - 1)).length + 1 + 0
      refine Classical.byContradiction fun z => hne ?_
      have en : n = (tp q d j (q - 1)).length := by omega
      rw [en, List.take_length] at hbits
      rw [← hbits]
      have h2 := wf_cl (q := q) (d := d) (j := j) hj hd 0
      have ecl : cl q d j = j :: tp q d j (q - 1) := by
        unfold cl
        rw [if_pos b, List.append_nil]
      rw [ecl, Nat.zero_xor] at h2
      exact h2
    · rw [if_neg b]
      show n + 1 < (tp q d j (q - 1)).length + 1 + 1
      omega
end Bf
namespace Bf
open PySem PySem.Spec PyProof.Rows L2 LamX NdefX
/-! ### the tree through a hand -/
def trn (q e j : Nat) : Nat := (e >>> j) ||| ((e &&& (2 ^ j - 1)) <<< (q - j))
theorem trn_bit {q e j k : Nat} (hj : j < q) (he : e < 2 ^ q) : (trn q e j).testBit k = (decide (k < q) && e.testBit ((k + j) % q)) := by
  unfold trn
  rw [Nat.testBit_or, Nat.testBit_shiftRight, Nat.testBit_shiftLeft, Nat.testBit_and, Nat.testBit_two_pow_sub_one]
  have hbig : ∀ x, q ≤ x → e.testBit x = false := fun x hx => Nat.testBit_lt_two_pow (Nat.lt_of_lt_of_le he (Nat.pow_le_pow_right (by decide) hx))
  by_cases hk : k < q
  · rw [decide_eq_true hk, Bool.true_and]
    by_cases h1 : k + j < q
    · rw [Nat.mod_eq_of_lt h1, decide_eq_false (show ¬ k ≥ q - j by omega), Bool.false_and, Bool.or_false, Nat.add_comm]
    · have e1 : (k + j) % q = k - (q - j) := by
        rw [Nat.mod_eq_sub_mod (by omega), Nat.mod_eq_of_lt (by omega)]
        omega
      rw [e1, hbig (j + k) (by omega), Bool.false_or, decide_eq_true (show k ≥ q - j by omega), Bool.true_and, decide_eq_true (show k - (q - j) < j by omega), Bool.and_true]
  · rw [decide_eq_false hk, Bool.false_and, hbig (j + k) (by omega), Bool.false_or]
    by_cases h1 : k - (q - j) < j
    · omega
    · rw [decide_eq_false h1, Bool.and_false, Bool.and_false]
def lnF (n : Nat) : Nat := if n = 0 then 0 else n.log2 + 1
theorem ln_bit {n k : Nat} (h : n.testBit k = true) : k < lnF n := by
  have h0 : n ≠ 0 := fun e => by rw [e, Nat.zero_testBit] at h; cases h
  unfold lnF
  rw [if_neg h0]
  have := Nat.ge_two_pow_of_testBit h
  have := (Nat.le_log2 h0).mpr this
  omega
theorem ln_top {n : Nat} (h0 : n ≠ 0) : n.testBit (lnF n - 1) = true := by
  unfold lnF
  rw [if_neg h0, Nat.add_sub_cancel]
  exact Nat.testBit_log2 h0
def iwF (q d e j : Nat) : Bool := decide (trn q e j &&& 1 = 1) && decide ((trn q e j ^^^ trn q d j) &&& (2 ^ lnF (trn q e j) - 1) ≤ 1)
theorem le_one {n : Nat} : n ≤ 1 ↔ ∀ k, 1 ≤ k → n.testBit k = false := by
  constructor
  · intro h k hk
    refine Nat.testBit_lt_two_pow (Nat.lt_of_le_of_lt h ?_)
    exact Nat.lt_of_lt_of_le (by decide : 1 < 2 ^ 1) (Nat.pow_le_pow_right (by decide) hk)
  · intro h
    refine Classical.byContradiction fun z => ?_
    have hn : n ≠ 0 := by omega
    have h1 := Nat.testBit_log2 hn
    have h2 : 1 ≤ n.log2 := (Nat.le_log2 hn).mpr (by show 2 ^ 1 ≤ n; omega)
    rw [h _ h2] at h1
    cases h1
theorem and_one {n : Nat} : n &&& 1 = 1 ↔ n.testBit 0 = true := by
  rw [Nat.and_one_is_mod, Nat.testBit_zero]
  exact ⟨fun h => decide_eq_true h, fun h => of_decide_eq_true h⟩
theorem iw_iff {q d e j : Nat} (hj : j < q) (hd : d < 2 ^ q) (he : e < 2 ^ q) : iwF q d e j = true ↔ OnW q d e j := by
  have hq : 0 < q := by omega
  unfold iwF
  rw [Bool.and_eq_true, decide_eq_true_eq, decide_eq_true_eq, and_one, le_one]
  have b0 : (trn q e j).testBit 0 = e.testBit j := by
    rw [trn_bit hj he, decide_eq_true hq, Bool.true_and, Nat.zero_add, Nat.mod_eq_of_lt hj]
  rw [b0]
  have hat : ∀ k, k < q → ar q j ((k + j) % q) = (k : Int) := fun k hk => by
    rw [Nat.add_comm]
    exact ar_at j hk
  constructor
  · rintro ⟨h1, h2⟩
    refine ⟨h1, fun x y hx hy hxy hne => ?_⟩
    obtain ⟨k, hk, ek⟩ := at_of j hx
    have hyq := lt_of_bit he hy
    obtain ⟨l, hl, el⟩ := at_of j hyq
    rw [Nat.add_comm] at ek el
    have hkl : k ≤ l := by
      have a1 := hat k hk
      have a2 := hat l hl
      rw [ek] at a1
      rw [el] at a2
      omega
    have hk1 : 1 ≤ k := by
      refine Nat.pos_of_ne_zero fun z => hne ?_
      rw [← ek, z, Nat.zero_add, Nat.mod_eq_of_lt hj]
    have hb := h2 k hk1
    have hlen : k < lnF (trn q e j) := by
      have : (trn q e j).testBit l = true := by rw [trn_bit hj he, decide_eq_true hl, Bool.true_and, el]; exact hy
      have := ln_bit this
      omega
    rw [Nat.testBit_and, Nat.testBit_xor, Nat.testBit_two_pow_sub_one, decide_eq_true hlen, Bool.and_true, trn_bit hj he, trn_bit hj hd, decide_eq_true hk, Bool.true_and, Bool.true_and, ek] at hb
    cases h3 : e.testBit x <;> cases h4 : d.testBit x <;> rw [h3, h4] at hb <;> first | rfl | cases hb
  · rintro ⟨h1, h2⟩
    refine ⟨h1, fun k hk => ?_⟩
    rw [Nat.testBit_and, Nat.testBit_xor, Nat.testBit_two_pow_sub_one]
    by_cases hlen : k < lnF (trn q e j)
    · have hne : trn q e j ≠ 0 := fun z => by
        rw [z] at hlen
        exact absurd hlen (by show ¬ k < 0; omega)
      have ht := ln_top hne
      have htq : lnF (trn q e j) - 1 < q := by
        rw [trn_bit hj he] at ht
        exact of_decide_eq_true (Bool.and_eq_true_iff.mp ht).1
      rw [trn_bit hj he, decide_eq_true htq, Bool.true_and] at ht
      have hkq : k < q := by omega
      have hxy := h2 ((k + j) % q) ((lnF (trn q e j) - 1 + j) % q) (Nat.mod_lt _ hq) ht (by rw [hat k hkq, hat _ htq]; omega) (fun z => by
        have := hat k hkq
        rw [z, ar_self] at this
        omega)
      rw [trn_bit hj he, trn_bit hj hd, decide_eq_true hkq, Bool.true_and, Bool.true_and, hxy, Bool.xor_self, Bool.false_and]
    · rw [decide_eq_false hlen, Bool.and_false]
/-- the least bit -/
def fpF (n : Nat) : Nat := (((List.range (lnF n)).filter fun k => n.testBit k).head?).getD 0
theorem fp_is {n : Nat} (h0 : n ≠ 0) : n.testBit (fpF n) = true ∧ ∀ k, n.testBit k = true → fpF n ≤ k := by
  unfold fpF
  have hm : lnF n - 1 ∈ (List.range (lnF n)).filter fun k => n.testBit k := List.mem_filter.mpr ⟨List.mem_range.mpr (by have := ln_bit (ln_top h0); omega), ln_top h0⟩
  have hs : ((List.range (lnF n)).filter fun k => n.testBit k).Pairwise (· < ·) := List.Pairwise.filter _ List.pairwise_lt_range
  cases e : (List.range (lnF n)).filter fun k => n.testBit k with
  | nil => rw [e] at hm; exact absurd hm List.not_mem_nil
  | cons a l =>
    have ha : a ∈ (List.range (lnF n)).filter fun k => n.testBit k := by rw [e]; exact List.mem_cons_self
    refine ⟨(List.mem_filter.mp ha).2, fun k hk => ?_⟩
    have hk2 : k ∈ (List.range (lnF n)).filter fun k => n.testBit k := List.mem_filter.mpr ⟨List.mem_range.mpr (ln_bit hk), hk⟩
    rw [e] at hk2 hs
    show a ≤ k
    rcases List.mem_cons.mp hk2 with h | h
    · omega
    · have := (List.pairwise_cons.mp hs).1 k h
      omega
def otF (q d e : Nat) : Option Nat := if e ^^^ (d &&& e) ≠ 0 then some (lnF (e ^^^ (d &&& e)) - 1) else if e = 0 ∨ d ^^^ (d &&& e) = 0 then none
  else some ((lnF (d ^^^ (d &&& e)) - 1 + fpF (trn q e (lnF (d ^^^ (d &&& e)) - 1))) % q)
def thF (q d e : Nat) : Option Nat := match otF q d e with
  | none => none
  | some j => if iwF q d e j = true then some j else none
theorem bey_bit {d e x : Nat} : (e ^^^ (d &&& e)).testBit x = (e.testBit x && !d.testBit x) := by
  rw [Nat.testBit_xor, Nat.testBit_and]
  cases e.testBit x <;> cases d.testBit x <;> rfl
theorem lac_bit {d e x : Nat} : (d ^^^ (d &&& e)).testBit x = (d.testBit x && !e.testBit x) := by
  rw [Nat.testBit_xor, Nat.testBit_and]
  cases e.testBit x <;> cases d.testBit x <;> rfl
theorem ot_lt {q d e j : Nat} (hq : 0 < q) (he : e < 2 ^ q) (h : otF q d e = some j) : j < q ∧ e ≠ d := by
  unfold otF at h
  by_cases b : e ^^^ (d &&& e) ≠ 0
  · rw [if_pos b] at h
    have h := Option.some.inj h
    have ht := ln_top b
    rw [h, bey_bit] at ht
    obtain ⟨h1, h2⟩ := Bool.and_eq_true_iff.mp ht
    refine ⟨lt_of_bit he h1, fun z => ?_⟩
    rw [z] at h1
    rw [h1] at h2
    cases h2
  · rw [if_neg b] at h
    by_cases c : e = 0 ∨ d ^^^ (d &&& e) = 0
    · rw [if_pos c] at h
      cases h
    · rw [if_neg c] at h
      have h := Option.some.inj h
      refine ⟨by rw [← h]; exact Nat.mod_lt _ hq, fun z => c (.inr ?_)⟩
      rw [z, Nat.and_self, Nat.xor_self]
theorem ot_is {q d e j : Nat} (hj : j < q) (hd : d < 2 ^ q) (he : e < 2 ^ q) (ho : OnW q d e j) (hne : e ≠ d) : otF q d e = some j := by
  have hq : 0 < q := by omega
  obtain ⟨h1, h2⟩ := ho
  have sub : ∀ x, e.testBit x = true → x ≠ j → d.testBit x = true := fun x hx hn => by
    rw [← h2 x x (lt_of_bit he hx) hx (Int.le_refl _) hn]
    exact hx
  unfold otF
  by_cases b : e ^^^ (d &&& e) ≠ 0
  · rw [if_pos b]
    have ht := ln_top b
    rw [bey_bit] at ht
    obtain ⟨a1, a2⟩ := Bool.and_eq_true_iff.mp ht
    congr 1
    refine Classical.byContradiction fun z => ?_
    rw [sub _ a1 z] at a2
    cases a2
  · have b : e ^^^ (d &&& e) = 0 := Classical.byContradiction b
    rw [if_neg (fun z => z b)]
    have hjd : d.testBit j = true := by
      have : (e ^^^ (d &&& e)).testBit j = false := by rw [b, Nat.zero_testBit]
      rw [bey_bit, h1] at this
      cases h3 : d.testBit j with
      | true => rfl
      | false => rw [h3] at this; cases this
    have all : ∀ x, e.testBit x = true → d.testBit x = true := fun x hx => by
      by_cases z : x = j
      · rw [z]
        exact hjd
      · exact sub x hx z
    have hl : d ^^^ (d &&& e) ≠ 0 := fun z => hne (Nat.eq_of_testBit_eq fun x => by
      have hx : (d ^^^ (d &&& e)).testBit x = false := by rw [z, Nat.zero_testBit]
      rw [lac_bit] at hx
      cases h3 : e.testBit x with
      | true => exact (all x h3).symm
      | false =>
        rw [h3] at hx
        cases h4 : d.testBit x with
        | false => rfl
        | true => rw [h4] at hx; cases hx)
    have he0 : e ≠ 0 := fun z => by rw [z, Nat.zero_testBit] at h1; cases h1
    rw [if_neg (fun z => z.elim he0 hl)]
    have hg := ln_top hl
    generalize lnF (d ^^^ (d &&& e)) - 1 = g at hg
    rw [lac_bit] at hg
    obtain ⟨g1, g2⟩ := Bool.and_eq_true_iff.mp hg
    have hgq := lt_of_bit hd g1
    have hge : e.testBit g = false := by
      cases h3 : e.testBit g with
      | false => rfl
      | true => rw [h3] at g2; cases g2
    -- all of e lies nearer than g
    have near : ∀ y, e.testBit y = true → ar q j y < ar q j g := fun y hy => by
      refine Classical.byContradiction fun z => ?_
      have hgj : g ≠ j := fun w => by rw [w, h1] at hge; cases hge
      have := h2 g y hgq hy (by omega) hgj
      rw [hge, g1] at this
      cases this
    have hn0 : trn q e g ≠ 0 := fun z => by
      obtain ⟨k, hk, ek⟩ := at_of g hj
      have : (trn q e g).testBit k = true := by rw [trn_bit hgq he, decide_eq_true hk, Bool.true_and, Nat.add_comm, ek]; exact h1
      rw [z, Nat.zero_testBit] at this
      cases this
    obtain ⟨f1, f2⟩ := fp_is hn0
    have fq : fpF (trn q e g) < q := by
      rw [trn_bit hgq he] at f1
      exact of_decide_eq_true (Bool.and_eq_true_iff.mp f1).1
    rw [trn_bit hgq he, decide_eq_true fq, Bool.true_and] at f1
    obtain ⟨k, hk, ek⟩ := at_of g hj
    have hkj : (trn q e g).testBit k = true := by rw [trn_bit hgq he, decide_eq_true hk, Bool.true_and, Nat.add_comm, ek]; exact h1
    have hle := f2 k hkj
    generalize fpF (trn q e g) = m at f1 f2 fq hle
    congr 1
    rw [Nat.add_comm m g] at f1
    -- the first of e behind g is j
    refine Classical.byContradiction fun z => ?_
    have n1 := near _ f1
    have hmk : m < k := by
      refine Nat.lt_of_le_of_ne hle fun w => z ?_
      rw [w]
      exact ek
    have a1 := ar_at (q := q) (i := k) g hk
    rw [ek] at a1
    have a2 := ar_at (q := q) (i := m) g fq
    -- arcs from j
    have e1 : ar q j g = (q : Int) - k ∨ k = 0 := by
      by_cases k0 : k = 0
      · exact .inr k0
      · refine .inl ?_
        have : ar q ((g + k) % q) ((g + k + (q - k)) % q) = ((q - k : Nat) : Int) := by
          have := ar_at (q := q) (i := q - k) ((g + k) % q) (by omega)
          rw [Nat.mod_add_mod] at this
          exact this
        rw [ek, show g + k + (q - k) = g + q by omega, Nat.add_mod_right, Nat.mod_eq_of_lt hgq] at this
        omega
    have e2 : ar q j ((g + m) % q) = (q : Int) - k + m := by
      have hkm : k - m ≤ q := by omega
      have : ar q ((g + k) % q) ((g + k + (q - (k - m))) % q) = ((q - (k - m) : Nat) : Int) := by
        have := ar_at (q := q) (i := q - (k - m)) ((g + k) % q) (by omega)
        rw [Nat.mod_add_mod] at this
        exact this
      rw [ek, show g + k + (q - (k - m)) = g + m + q by omega, Nat.add_mod_right] at this
      rw [this]
      omega
    rcases e1 with e1 | e1
    · rw [e2, e1] at n1
      omega
    · omega
theorem th_iff {q d e j : Nat} (hq : 0 < q) (hd : d < 2 ^ q) (he : e < 2 ^ q) : thF q d e = some j ↔ j < q ∧ Bt q d j e := by
  unfold thF
  constructor
  · intro h
    cases z : otF q d e with
    | none => rw [z] at h; cases h
    | some k =>
      rw [z] at h
      obtain ⟨hk, hne⟩ := ot_lt hq he z
      have h : (if iwF q d e k = true then some k else none) = some j := h
      by_cases c : iwF q d e k = true
      · rw [if_pos c] at h
        have h := Option.some.inj h
        subst h
        exact ⟨hk, (bt_iff hk hd he).mpr ⟨(iw_iff hk hd he).mp c, hne⟩⟩
      · rw [if_neg c] at h
        cases h
  · rintro ⟨hj, hb⟩
    obtain ⟨ho, hne⟩ := (bt_iff hj hd he).mp hb
    rw [ot_is hj hd he ho hne]
    show (if iwF q d e j = true then some j else none) = some j
    rw [if_pos ((iw_iff hj hd he).mpr ho)]
end Bf
namespace Bf
open PySem PySem.Spec PyProof.Rows L2 LamX NdefX
theorem op_andN {X : Cx} : OpR X (binaryOp .BitAnd) (fun x y H Q => ∃ n m : Nat, x = .int (n : Int) ∧ y = .int (m : Int) ∧ Q (.int ((n &&& m : Nat) : Int)) H) := by
  intro pins s σ H x y v u Q I rx ry h
  obtain ⟨n, m, rfl, rfl, q⟩ := h
  refine op_and pins s σ H _ _ v u Q I rx ry ⟨(n : Int), (m : Int), rfl, rfl, ?_⟩
  show Q (.int (Builtin.bitAnd (n : Int) (m : Int))) H
  unfold Builtin.bitAnd
  rw [decide_eq_true (Int.natCast_nonneg n), decide_eq_true (Int.natCast_nonneg m)]
  exact q
theorem op_shlN {X : Cx} : OpR X (binaryOp .LShift) (fun x y H Q => ∃ n k : Nat, x = .int (n : Int) ∧ y = .int (k : Int) ∧ n < 2 ^ 64 ∧ k ≤ 1000000 ∧ Q (.int ((n <<< k : Nat) : Int)) H) := by
  intro pins s σ H x y v u Q I rx ry h
  obtain ⟨n, k, rfl, rfl, hn, hk, q⟩ := h
  refine op_shl pins s σ H _ _ v u Q I rx ry ⟨(n : Int), (k : Int), rfl, rfl, ⟨by omega, by omega, by simpa using hn⟩, ?_⟩
  rw [Nat.shiftLeft_eq] at q
  show Q (.int ((n : Int) * 2 ^ (k : Int).toNat)) H
  rw [Int.toNat_natCast]
  have e : ((n * 2 ^ k : Nat) : Int) = (n : Int) * 2 ^ k := by rw [Int.natCast_mul, Int.natCast_pow]; rfl
  rw [e] at q
  exact q
theorem low_eq {n : Nat} (h0 : n ≠ 0) : n - (n &&& (n - 1)) = 2 ^ fpF n := by
  obtain ⟨h1, h2⟩ := fp_is h0
  generalize fpF n = k at h1 h2
  -- n = 2 ^ (k + 1) * a + 2 ^ k
  have hb : n % 2 ^ (k + 1) = 2 ^ k := by
    refine Nat.eq_of_testBit_eq fun x => ?_
    rw [Nat.testBit_mod_two_pow, Nat.testBit_two_pow]
    by_cases hx : k = x
    · subst hx
      rw [decide_eq_true (Nat.lt_succ_self k), h1, decide_eq_true rfl]
      rfl
    · rw [decide_eq_false hx]
      by_cases hl : x < k + 1
      · rw [decide_eq_true hl, Bool.true_and]
        cases b : n.testBit x with
        | false => rfl
        | true => have := h2 x b; omega
      · rw [decide_eq_false hl, Bool.false_and]
  have hn : n = 2 ^ (k + 1) * (n / 2 ^ (k + 1)) + 2 ^ k := by
    have := Nat.div_add_mod n (2 ^ (k + 1))
    rw [hb] at this
    exact this.symm
  generalize n / 2 ^ (k + 1) = a at hn
  have hp : 0 < 2 ^ k := Nat.two_pow_pos k
  have hlt : 2 ^ k < 2 ^ (k + 1) := Nat.pow_lt_pow_right (by decide) (by omega)
  have hn1 : n - 1 = 2 ^ (k + 1) * a + (2 ^ k - 1) := by omega
  have hand : n &&& (n - 1) = 2 ^ (k + 1) * a := by
    refine Nat.eq_of_testBit_eq fun x => ?_
    rw [Nat.testBit_and, hn1, hn, Nat.testBit_two_pow_mul_add _ hlt, Nat.testBit_two_pow_mul_add _ (by omega), Nat.testBit_two_pow_mul, Nat.testBit_two_pow, Nat.testBit_two_pow_sub_one]
    by_cases hx : x < k + 1
    · rw [if_pos hx, if_pos hx, decide_eq_false (show ¬ x ≥ k + 1 by omega), Bool.false_and]
      by_cases hk : k = x
      · rw [decide_eq_false (show ¬ x < k by omega), Bool.and_false]
      · rw [decide_eq_false hk, Bool.false_and]
    · rw [if_neg hx, if_neg hx, decide_eq_true (show x ≥ k + 1 by omega), Bool.true_and, Bool.and_self]
  omega
theorem bits_nat (n : Nat) : Builtin.Int.intBits (n : Int) = lnF n := by
  unfold Builtin.Int.intBits lnF
  by_cases e : n = 0
  · subst e
    rfl
  · rw [if_neg e]
    simp [e]
theorem ln_pow (k : Nat) : lnF (2 ^ k) = k + 1 := by
  unfold lnF
  rw [if_neg (Nat.ne_of_gt (Nat.two_pow_pos k)), Nat.log2_two_pow]
theorem and_neg {n : Nat} (h0 : n ≠ 0) : Builtin.bitAnd (n : Int) (-(n : Int)) = ((2 ^ fpF n : Nat) : Int) := by
  unfold Builtin.bitAnd
  rw [decide_eq_true (Int.natCast_nonneg n), decide_eq_false (show ¬ (0 : Int) ≤ -(n : Int) by omega)]
  show (n : Int) - (((n : Int).toNat &&& (Builtin.bitNot (-(n : Int))).toNat : Nat) : Int) = _
  have e : (Builtin.bitNot (-(n : Int))).toNat = n - 1 := by
    unfold Builtin.bitNot
    omega
  rw [e, Int.toNat_natCast, ← low_eq h0]
  have := Nat.and_le_left (n := n) (m := n - 1)
  omega
end Bf
namespace Bf
open PySem PySem.Spec PyProof.Rows L2
/-! ### set(xs) of a list of whole numbers -/
section
variable {P : Program} {w : World} {A : Around} {E : Value → Shared → Prop} {s : Shared}
abbrev bare (w : World) : Obj := { cls := .type "set", dict := none, data := .set #[] 0 (.fresh 0 0 (!w.params.followText "set-order")) }
abbrev withBare (w : World) (s : Shared) : Shared := { s with heap := s.heap.push (bare w) }
/-- what the filling leaves: S holds just the numbers, all else stands -/
structure Filled (w : World) (S : Addr) (ns : List Int) (s s' : Shared) : Prop where
  set : ∃ c, c ≤ ns.length ∧ SetR w s'.heap S (fun j => decide (j ∈ ns)) c
  keep : ∀ b o, b ≠ S → s.heap.get? b = some o → s'.heap.get? b = some o
  gens : s'.gens = s.gens
  drawn : s'.drawn = s.drawn
  os : s'.os = s.os
theorem fill_loop {S l I : Addr} {items : Array Value} {ns : List Int} {R : Result → Shared → Prop} (hh : A.in1.handled = none) (hne : l ≠ I) (hS : S ≠ I) (hSl : S ≠ l) (hit : IntsAre items.toList ns) (hb : ns.length + 1 < scanBound)
    (st : s.heap.IsListIter I l 0) (hl : s.heap.IsList l items) (h0 : s.heap.get? S = some (bare w))
    (h : ∀ s', (∃ c, c ≤ ns.length ∧ SetR w s'.heap S (fun j => decide (j ∈ ns)) c) → (∀ b o, b ≠ S → b ≠ I → s.heap.get? b = some o → s'.heap.get? b = some o) → s'.gens = s.gens → s'.drawn = s.drawn → s'.os = s.os → R (.ok (.ret .none)) s') :
    codeAny (model P w) A (.builtin "set.update.loop" ⟨[.ref S, .ref I], []⟩) R s := by
  have hn : items.size = ns.length := by
    have e := IntsAre.length hit
    rw [Array.length_toList] at e
    exact e
  refine L2.set_update_ints ((Walks.list hh I l hne items).toS) S (by simp [hS, hSl]) ns hn hb (fun i v hv => ?_) (items.size - 0) 0 s rfl (Nat.zero_le _) ⟨st, hl⟩ ⟨0, Nat.le_refl 0, L2.setR_new_at h0⟩ fun s' c hm hc hR => ?_
  · have hi : i < ns.length := by
      rw [← hn]
      exact (Array.getElem?_eq_some_iff.mp hv).1
    obtain ⟨t, e⟩ := IntsAre.int_at hit i v (by rw [Array.getElem?_toList]; exact hv)
    refine ⟨ns[i], t, List.getElem?_eq_getElem hi, ?_⟩
    rw [e, List.getD_eq_getElem?_getD, List.getElem?_eq_getElem hi] <;> rfl
  · exact h s' ⟨c, by omega, hR⟩ (fun b o h1 h2 e => hm.heap b o (by simp [h1, h2]) e) hm.gens hm.drawn hm.os
theorem fill_init {S l : Addr} {items : Array Value} {ns : List Int} {Q : PySem.Fin → Shared → Prop} (hh : A.handled = none) (hSl : S ≠ l) (hS : s.heap.get? S = some (bare w)) (hl : s.heap.IsList l items) (hit : IntsAre items.toList ns) (hb : ns.length + 1 < scanBound)
    (h : ∀ s', Filled w S ns s s' → Q (.done (.ret .none)) s') : wpAny (model P w) A (Builtin.«set.__init__» ⟨[.ref S, .ref l], []⟩) Q E s := by
  obtain ⟨⟨oc, od, dat, sl⟩, hol, hcl, nl, hdl⟩ := id hl
  dsimp only at hcl hdl
  subst hcl hdl
  have n1 := PySem.F.sub_list_set
  have n2 := PySem.F.sub_list_frozenset
  have n3 : (Value.type "list" == Value.type "dict") = false := by decide
  have n4 := sub_set_self
  have hSlt := Heap.lt_size hS
  have hllt := Heap.lt_size hol
  unfold Builtin.«set.__init__» noKeywords Builtin.Frozenset.updateFrom
  generalize hPI : pyIter = PI
  wp_walk
  subst hPI
  refine wpAny_pyIter_list hl (wpAny_bind (wpAny_runValue ?_))
  refine fill_loop (l := l) (items := items) (ns := ns) (by simp [hh]) (Nat.ne_of_lt hllt) (Nat.ne_of_lt hSlt) hSl hit hb ⟨_, Heap.get?_push_size _ rfl, rfl, rfl⟩ (hl.push _) (Heap.get?_push_of_some _ hS) fun s' h1 h2 h3 h4 h5 => ?_
  refine wpAny_pure (wpAny_pure (h s' ⟨h1, fun b o hbS e => ?_, h3, h4, h5⟩))
  exact h2 b o hbS (Nat.ne_of_lt (Heap.lt_size e)) (Heap.get?_push_of_some _ e)
theorem set_call {l : Addr} {items : Array Value} {ns : List Int} {Q : Value → Shared → Prop} (hh : A.handled = none) (hl : s.heap.IsList l items) (hit : IntsAre items.toList ns) (hb : ns.length + 1 < scanBound)
    (h : ∀ s', Filled w s.heap.objs.size ns (withBare w s) s' → Q (.ref s.heap.objs.size) s') : wpAny (model P w) A (call (.type "set") [.ref l]) Q E s := by
  obtain ⟨ol, hol, _⟩ := id hl
  have hlt := Heap.lt_size hol
  have m1 := PySem.F.called_set.mro
  obtain ⟨c, tl, hmro⟩ := m1
  have m2 := PySem.F.called_set.made
  have m3 := PySem.F.called_set.sub
  have m4 := PySem.F.called_set.notType
  have m5 := PySem.F.called_set.canCreate
  have m6 := PySem.F.typeCall_set_1 (.ref l)
  have m7 := PySem.F.called_set.init.lookup
  have m8 := PySem.F.called_set.init.bind (.ref s.heap.objs.size)
  have hS : (withBare w s).heap.get? s.heap.objs.size = some (bare w) := Heap.get?_push_size _ rfl
  have hT : Shared.TypeIs (withBare w s) (.ref s.heap.objs.size) "set" := ⟨_, hS, rfl⟩
  refine wpAny_call (codeAny_of_tree (wpAny_pure ⟨Code.quiet_builtin _ (by decide +kernel), codeAny_builtin PySem.F.entry_type_call ?_⟩))
  rw [Around.under_plain (weight_type_call_type "set" [.ref l] []) rfl]
  repeat (any_goals (first | assumption | wp_step))
  refine codeAny_mono (L2.code_set_led1 (.ref l) (E := E) (Q₁ := fun obj s₁ => obj = .ref s.heap.objs.size ∧ s₁ = withBare w s) ⟨rfl, rfl⟩) fun r s₁ hr => ?_
  match r, s₁, hr with
  | .ok (.ret _), _, ⟨rfl, rfl⟩ =>
    repeat (any_goals (first | assumption | wp_step))
    refine codeAny_mono (codeAny_call_builtin (R := wants (fun r s₂ => r = .none ∧ Filled w s.heap.objs.size ns (withBare w s) s₂) E) PySem.F.called_set.init.plain PySem.F.entry_set_init (check_set_init_1 hT ?_)) fun r₂ s₂ hr₂ => ?_
    · exact fill_init (by simp [hh]) (Nat.ne_of_gt hlt) hS (hl.push _) hit hb fun s' hf => ⟨rfl, hf⟩
    · match r₂, s₂, hr₂ with
      | .ok (.ret _), _, ⟨rfl, hf⟩ =>
        repeat (any_goals (first | assumption | wp_step))
        exact h _ hf
      | .error e, _, hr₂ => exact hr₂
  | .error e, _, hr => exact hr
end
def rSetL (K : PySem.W.Frag) (w : World) : List V → Hp → VK → Prop := fun xs H Q => ∃ (l : Addr) (ns : List Int), xs = [.ref l] ∧ SqL K H l (ns.map V.int) ∧ ns.length ≤ 1000 ∧ ∀ a c, H a = none → c ≤ ns.length → Q (.ref a) (upd H a (SetO w a (fun j => decide (j ∈ ns)) c))
theorem cr_setL {X : Cx} (hc : X.calm = true) : CallR X (.type "set") (rSetL X.K X.w) := by
  intro pins s σ H xs us Q I r h
  obtain ⟨l, ns, rfl, hq, hn, q⟩ := h
  obtain ⟨u, rfl, ru⟩ := vals1 r
  cases ru
  obtain ⟨its, rv, pl, hz⟩ := I.list hq
  refine set_call (I.ok.hd hc) pl.isList (by simpa using RZ.intsAre_vals rv) (by unfold scanBound; omega) fun s' hf => ?_
  obtain ⟨⟨c, hc1, hR⟩, hk, e1, e2, e3⟩ := hf
  obtain ⟨h', g', d', t', o'⟩ := s'
  dsimp only at hR hk e1 e2 e3
  subst e1 e2 e3
  exact ⟨.ref _, upd H s.heap.objs.size (SetO X.w s.heap.objs.size (fun j => decide (j ∈ ns)) c), I.laid (t' := t') (fun b u e => hk b u (Nat.ne_of_lt (Heap.lt_size e)) (Heap.get?_push_of_some _ e)) (Nat.le_refl _) (setO_new hR), rfl, q _ c (I.hok.fresh (Nat.le_refl _)) hc1⟩
end Bf
namespace Bf
open PySem PySem.Spec PyProof.Rows L2 LamX NdefX
/-! ### set of a tuple of whole numbers, sorted -/
def rSetU (K : PySem.W.Frag) (w : World) : List V → Hp → VK → Prop := fun xs H Q => ∃ (l : Addr) (ns : List Int), xs = [.ref l] ∧ SqT K H l (ns.map V.int) ∧ ns.length ≤ 1000 ∧ ∀ a c, H a = none → c ≤ ns.length → Q (.ref a) (upd H a (SetO w a (fun j => decide (j ∈ ns)) c))
theorem cr_setU {X : Cx} (hc : X.calm = true) : CallR X (.type "set") (rSetU X.K X.w) := by
  intro pins s σ H xs us Q I r h
  obtain ⟨l, ns, rfl, hq, hn, q⟩ := h
  obtain ⟨u, rfl, ru⟩ := vals1 r
  cases ru
  obtain ⟨its, rv, pl, hz⟩ := I.tuple hq
  refine L2.call_set_tupI ns (I.ok.hd hc) pl (by simpa using RZ.intsAre_vals rv) (by unfold scanBound; omega) fun h' tk c hR hc1 hk => ?_
  exact ⟨.ref _, upd H s.heap.objs.size (SetO X.w s.heap.objs.size (fun j => decide (j ∈ ns)) c), I.laid (t' := tk) (fun b u e => hk b u e) (Nat.le_refl _) (setO_new hR), rfl, q _ c (I.hok.fresh (Nat.le_refl _)) hc1⟩
theorem set_rise {ns : List Int} {L : List Nat} (hpw : ns.Pairwise (· < ·)) (hmem : ∀ k : Int, k ∈ ns ↔ decide (k ∈ L.map fun (n : Nat) => (n : Int)) = true) : ∃ zs : List Nat, ns = zs.map (fun (n : Nat) => (n : Int)) ∧ zs.Pairwise (· < ·) ∧ ∀ z, z ∈ zs ↔ z ∈ L := by
  have ens : ns = (ns.map Int.toNat).map fun (n : Nat) => (n : Int) := by
    rw [List.map_map]
    conv => lhs; rw [← List.map_id ns]
    refine List.map_congr_left fun x hx => ?_
    obtain ⟨y, _, rfl⟩ := List.mem_map.mp (of_decide_eq_true ((hmem x).mp hx))
    rfl
  generalize ns.map Int.toNat = zs at ens
  subst ens
  refine ⟨zs, rfl, ?_, fun z => ?_⟩
  · rw [List.pairwise_map] at hpw
    exact hpw.imp fun {a b} h => by omega
  · have h1 : ((z : Int) ∈ zs.map fun (n : Nat) => (n : Int)) ↔ z ∈ zs := ⟨fun h => by
      obtain ⟨y, hy, e⟩ := List.mem_map.mp h
      have : y = z := Int.ofNat.inj e
      rw [← this]
      exact hy, fun h => List.mem_map.mpr ⟨z, h, rfl⟩⟩
    have h2 : ((z : Int) ∈ L.map fun (n : Nat) => (n : Int)) ↔ z ∈ L := ⟨fun h => by
      obtain ⟨y, hy, e⟩ := List.mem_map.mp h
      have : y = z := Int.ofNat.inj e
      rw [← this]
      exact hy, fun h => List.mem_map.mpr ⟨z, h, rfl⟩⟩
    rw [← h1, hmem, decide_eq_true_iff, h2]
/-! ### the hands between -/
def mid (q h s j : Nat) : List Nat := (wl s (cl q (h ^^^ s) j)).tail.dropLast
theorem mid_mem {q h s j o : Nat} : o ∈ mid q h s j ↔ Bt q (h ^^^ s) j (o ^^^ s) := by
  unfold mid Bt
  generalize cl q (h ^^^ s) j = ks
  have e : (wl s ks).tail.dropLast = ((List.range (ks.length + 1)).tail.dropLast).map fun i => wf s (ks.take i) := by
    unfold wl
    rw [← List.map_tail, ← List.map_dropLast]
  have er : ∀ i, i ∈ (List.range (ks.length + 1)).tail.dropLast ↔ 1 ≤ i ∧ i < ks.length := fun i => by
    rw [List.range_succ_eq_map, List.tail_cons]
    cases hn : ks.length with
    | zero =>
      constructor
      · intro h
        exact absurd h List.not_mem_nil
      · intro h
        omega
    | succ n =>
      rw [List.range_succ, List.map_append, List.map_cons, List.map_nil, List.dropLast_concat, List.mem_map]
      constructor
      · rintro ⟨a, ha, rfl⟩
        rw [List.mem_range] at ha
        omega
      · rintro ⟨h1, h2⟩
        exact ⟨i - 1, List.mem_range.mpr (by omega), by omega⟩
  rw [e, List.mem_map]
  constructor
  · rintro ⟨i, hi, rfl⟩
    obtain ⟨h1, h2⟩ := (er i).mp hi
    refine ⟨i, h1, h2, ?_⟩
    rw [wf_xor (ks.take i) s, Nat.xor_comm s, Nat.xor_assoc, Nat.xor_self, Nat.xor_zero]
  · rintro ⟨i, h1, h2, h3⟩
    refine ⟨i, (er i).mpr ⟨h1, h2⟩, ?_⟩
    rw [wf_xor, h3, Nat.xor_comm, Nat.xor_assoc, Nat.xor_self, Nat.xor_zero]
theorem bt_end {q d j : Nat} (hj : j < q) (hd : d < 2 ^ q) : ¬ Bt q d j 0 ∧ ¬ Bt q d j d := by
  constructor
  · intro h
    have := ((bt_iff hj hd (Nat.two_pow_pos q)).mp h).1.1
    rw [Nat.zero_testBit] at this
    cases this
  · intro h
    exact ((bt_iff hj hd hd).mp h).2 rfl
theorem nodup_le : ∀ {l m : List Nat}, l.Nodup → (∀ x ∈ l, x ∈ m) → l.length ≤ m.length
  | [], m, _, _ => Nat.zero_le _
  | a :: l, m, nd, h => by
    obtain ⟨n1, n2⟩ := List.nodup_cons.mp nd
    have ha : a ∈ m := h a List.mem_cons_self
    have := nodup_le (l := l) (m := m.erase a) n2 fun x hx => (List.mem_erase_of_ne (fun (e : x = a) => n1 (e ▸ hx))).mpr (h x (List.mem_cons_of_mem a hx))
    rw [List.length_erase_of_mem ha] at this
    have := List.length_pos_of_mem ha
    rw [List.length_cons]
    omega
end Bf
namespace Bf
/-! ### primes -/
structure IsP (p : Nat) : Prop where
  two : 2 ≤ p
  only : ∀ d, d ∣ p → d = 1 ∨ d = p
/-- no number from 2 to n + 1 divides p -/
noncomputable def chk (p : Nat) (n : Nat) : Bool := Nat.rec true (fun n ih => ((Nat.beq (Nat.mod p (Nat.add n 2)) 0).not).and ih) n
theorem chk_no {p : Nat} : ∀ n, chk p n = true → ∀ d, 2 ≤ d → d < n + 2 → p % d ≠ 0
  | 0, _, d, h1, h2 => by omega
  | n + 1, h, d, h1, h2 => by
    have h : ((Nat.beq (Nat.mod p (Nat.add n 2)) 0).not).and (chk p n) = true := h
    have hh := (Bool.and_eq_true _ _).mp h
    by_cases e : d = n + 2
    · subst e
      intro z
      have h3 : Nat.beq (Nat.mod p (Nat.add n 2)) 0 = true := by
        have : Nat.mod p (Nat.add n 2) = 0 := z
        rw [this]
        rfl
      rw [h3] at hh
      exact absurd hh.1 (by decide)
    · exact chk_no n hh.2 d h1 (by omega)
theorem isP_of {p n : Nat} (h2 : 2 ≤ p) (h : p < (n + 2) * (n + 2)) (hn : n + 2 ≤ p) (c : chk p n = true) : IsP p := by
  have small : ∀ d, 2 ≤ d → d < n + 2 → ¬ d ∣ p := fun d hd hl hv => chk_no n c d hd hl (Nat.mod_eq_zero_of_dvd hv)
  refine ⟨h2, fun d hd => ?_⟩
  obtain ⟨e, he⟩ := hd
  have hd0 : 0 < d := Nat.pos_of_ne_zero fun z => by rw [z, Nat.zero_mul] at he; omega
  have he0 : 0 < e := Nat.pos_of_ne_zero fun z => by rw [z, Nat.mul_zero] at he; omega
  by_cases h1 : d = 1
  · exact .inl h1
  by_cases h3 : e = 1
  · rw [h3, Nat.mul_one] at he
    exact .inr he.symm
  exfalso
  rcases Nat.lt_or_ge d (n + 2) with l | l
  · exact small d (by omega) l ⟨e, he⟩
  · rcases Nat.lt_or_ge e (n + 2) with l2 | l2
    · exact small e (by omega) l2 ⟨d, by rw [he, Nat.mul_comm]⟩
    · have := Nat.mul_le_mul l l2
      rw [← he] at this
      omega
theorem ck1 : chk 999999937 31622 = true := by decide +kernel
theorem ck2 : chk 999999893 31622 = true := by decide +kernel
theorem ck3 : chk 65537 256 = true := by decide +kernel
def plist : List Nat := [2, 3, 5, 7, 11, 13, 31, 61, 67, 101, 997, 65537, 999999893, 999999937]
theorem plist_p : ∀ p ∈ plist, IsP p := fun p hp => by
  unfold plist at hp
  simp only [List.mem_cons, List.not_mem_nil, or_false] at hp
  rcases hp with rfl | rfl | rfl | rfl | rfl | rfl | rfl | rfl | rfl | rfl | rfl | rfl | rfl | rfl
  · exact isP_of (n := 0) (by decide) (by decide) (by decide) (by decide +kernel)
  · exact isP_of (n := 0) (by decide) (by decide) (by decide) (by decide +kernel)
  · exact isP_of (n := 1) (by decide) (by decide) (by decide) (by decide +kernel)
  · exact isP_of (n := 1) (by decide) (by decide) (by decide) (by decide +kernel)
  · exact isP_of (n := 2) (by decide) (by decide) (by decide) (by decide +kernel)
  · exact isP_of (n := 2) (by decide) (by decide) (by decide) (by decide +kernel)
  · exact isP_of (n := 4) (by decide) (by decide) (by decide) (by decide +kernel)
  · exact isP_of (n := 6) (by decide) (by decide) (by decide) (by decide +kernel)
  · exact isP_of (n := 7) (by decide) (by decide) (by decide) (by decide +kernel)
  · exact isP_of (n := 9) (by decide) (by decide) (by decide) (by decide +kernel)
  · exact isP_of (n := 30) (by decide) (by decide) (by decide) (by decide +kernel)
  · exact isP_of (n := 256) (by decide) (by decide) (by decide) ck3
  · exact isP_of (n := 31622) (by decide) (by decide) (by decide) ck2
  · exact isP_of (n := 31622) (by decide) (by decide) (by decide) ck1
theorem euclid {p a b : Nat} (hp : IsP p) (h : p ∣ a * b) : p ∣ a ∨ p ∣ b := by
  rcases hp.only _ (Nat.gcd_dvd_left p a) with g | g
  · exact .inr (Nat.Coprime.dvd_of_dvd_mul_left g h)
  · exact .inl (by rw [← g]; exact Nat.gcd_dvd_right p a)
theorem euclidZ {p : Nat} {a b : Int} (hp : IsP p) (h : (p : Int) ∣ a * b) : (p : Int) ∣ a ∨ (p : Int) ∣ b := by
  rw [Int.ofNat_dvd_left, Int.natAbs_mul] at h
  rw [Int.ofNat_dvd_left, Int.ofNat_dvd_left]
  exact euclid hp h
/-! ### Fermat -/
def prd : List Nat → Nat
  | [] => 1
  | a :: l => a * prd l
theorem prd_perm {l m : List Nat} (h : l.Perm m) : prd l = prd m := by
  induction h with
  | nil => rfl
  | cons x _ ih => show x * _ = x * _; rw [ih]
  | swap x y l => show y * (x * _) = x * (y * _); rw [Nat.mul_left_comm]
  | trans _ _ h1 h2 => rw [h1, h2]
theorem prd_map {p a : Nat} : ∀ l : List Nat, prd (l.map fun i => a * i % p) % p = a ^ l.length * prd l % p
  | [] => by simp [prd]
  | x :: l => by
    show (a * x % p) * prd (l.map fun i => a * i % p) % p = a ^ (l.length + 1) * (x * prd l) % p
    rw [Nat.mul_mod, prd_map l, Nat.mod_mod, ← Nat.mul_mod]
    congr 1
    rw [Nat.pow_succ]
    grind
theorem prd_no {p : Nat} (hp : IsP p) : ∀ l : List Nat, (∀ x ∈ l, ¬ p ∣ x) → ¬ p ∣ prd l
  | [], _ => fun z => by
    have h1 : p = 1 := Nat.dvd_one.mp z
    have := hp.two
    omega
  | x :: l, h => fun z => by
    rcases euclid hp z with y | y
    · exact h x List.mem_cons_self y
    · exact prd_no hp l (fun w hw => h w (List.mem_cons_of_mem _ hw)) y
theorem fermat {p a : Nat} (hp : IsP p) (ha : ¬ p ∣ a) : a ^ (p - 1) % p = 1 := by
  have h2 := hp.two
  have hL : ((List.range (p - 1)).map (· + 1)).Nodup := by
    unfold List.Nodup
    rw [List.pairwise_map]
    exact (List.nodup_range (n := p - 1)).imp fun {x y} z e => z (by omega)
  have hmem : ∀ x, x ∈ (List.range (p - 1)).map (· + 1) ↔ 0 < x ∧ x < p := fun x => by
    rw [List.mem_map]
    constructor
    · rintro ⟨y, hy, rfl⟩
      have := List.mem_range.mp hy
      omega
    · rintro ⟨h1, h3⟩
      exact ⟨x - 1, List.mem_range.mpr (by omega), by omega⟩
  generalize hl : (List.range (p - 1)).map (· + 1) = L at *
  have hlen : L.length = p - 1 := by rw [← hl, List.length_map, List.length_range]
  have nodv : ∀ x, 0 < x → x < p → ¬ p ∣ x := fun x h1 h3 z => by
    have := Nat.le_of_dvd h1 z
    omega
  have hM : (L.map fun i => a * i % p).Nodup := by
    unfold List.Nodup
    rw [List.pairwise_map]
    refine List.Pairwise.imp_of_mem (fun {x y} hx hy z e => z ?_) hL
    obtain ⟨x1, x2⟩ := (hmem x).mp hx
    obtain ⟨y1, y2⟩ := (hmem y).mp hy
    have hd : (p : Int) ∣ (a : Int) * ((x : Int) - y) := by
      have e2 : ((a * x % p : Nat) : Int) = ((a * y % p : Nat) : Int) := by rw [e]
      rw [Int.natCast_emod, Int.natCast_emod] at e2
      have := Int.emod_emod_of_dvd
      have h5 := (Int.emod_eq_emod_iff_emod_sub_eq_zero).mp e2
      have h6 := Int.dvd_of_emod_eq_zero h5
      have h7 : ((a * x : Nat) : Int) - ((a * y : Nat) : Int) = (a : Int) * ((x : Int) - y) := by
        rw [Int.natCast_mul, Int.natCast_mul]
        grind
      rw [h7] at h6
      exact h6
    rcases euclidZ hp hd with z1 | z1
    · exact absurd (Int.natCast_dvd_natCast.mp z1) ha
    · obtain ⟨c, hc⟩ := z1
      have : c = 0 := by
        rcases Int.lt_trichotomy c 0 with l | l | l
        · have : (p : Int) * c ≤ (p : Int) * (-1) := Int.mul_le_mul_of_nonneg_left (by omega) (by omega)
          omega
        · exact l
        · have : (p : Int) * 1 ≤ (p : Int) * c := Int.mul_le_mul_of_nonneg_left (by omega) (by omega)
          omega
      rw [this, Int.mul_zero] at hc
      omega
  have hsub : ∀ x ∈ L.map (fun i => a * i % p), x ∈ L := fun x hx => by
    obtain ⟨y, hy, rfl⟩ := List.mem_map.mp hx
    obtain ⟨y1, y2⟩ := (hmem y).mp hy
    rw [hmem]
    refine ⟨Nat.pos_of_ne_zero fun z => ?_, Nat.mod_lt _ (by omega)⟩
    rcases euclid hp (Nat.dvd_of_mod_eq_zero z) with w | w
    · exact ha w
    · exact nodv y y1 y2 w
  have hsup : ∀ x ∈ L, x ∈ L.map (fun i => a * i % p) := fun x hx => by
    apply Classical.byContradiction
    intro z
    have h8 := nodup_le (l := x :: L.map (fun i => a * i % p)) (m := L) (List.nodup_cons.mpr ⟨z, hM⟩) (fun y hy => by
      rcases List.mem_cons.mp hy with rfl | hy
      · exact hx
      · exact hsub y hy)
    rw [List.length_cons, List.length_map] at h8
    omega
  have hperm : (L.map fun i => a * i % p).Perm L := (List.perm_ext_iff_of_nodup hM hL).mpr fun x => ⟨hsub x, hsup x⟩
  have hp1 := prd_map (p := p) (a := a) L
  rw [prd_perm hperm, hlen] at hp1
  have hno := prd_no hp L fun x hx => by
    obtain ⟨x1, x2⟩ := (hmem x).mp hx
    exact nodv x x1 x2
  have hd : (p : Int) ∣ (((a ^ (p - 1) : Nat) : Int) - 1) * (prd L : Int) := by
    have e2 : ((a ^ (p - 1) * prd L % p : Nat) : Int) = ((prd L % p : Nat) : Int) := by rw [hp1]
    rw [Int.natCast_emod, Int.natCast_emod] at e2
    have h6 := Int.dvd_of_emod_eq_zero ((Int.emod_eq_emod_iff_emod_sub_eq_zero).mp e2)
    have h7 : ((a ^ (p - 1) * prd L : Nat) : Int) - (prd L : Int) = (((a ^ (p - 1) : Nat) : Int) - 1) * (prd L : Int) := by
      rw [Int.natCast_mul]
      grind
    rw [h7] at h6
    exact h6
  rcases euclidZ hp hd with z | z
  · have h9 := (Int.emod_eq_emod_iff_emod_sub_eq_zero (m := ((a ^ (p - 1) : Nat) : Int)) (n := (p : Int)) (k := 1)).mpr (Int.emod_eq_zero_of_dvd z)
    rw [← Int.natCast_emod, Int.emod_eq_of_lt (by decide) (by omega)] at h9
    omega
  · exact absurd (Int.natCast_dvd_natCast.mp z) hno
end Bf
namespace Bf
/-! ### rows as polynomials by a prime -/
def evZ : List Int → Int → Int
  | [], _ => 0
  | a :: as, y => a + y * evZ as y
def cz (ns : List Nat) : List Int := ns.map fun (n : Nat) => (n : Int)
theorem ev_cz (x : Nat) : ∀ ns : List Nat, ((ev ns x : Nat) : Int) = evZ (cz ns) x
  | [] => rfl
  | a :: as => by
    show ((a + x * ev as x : Nat) : Int) = (a : Int) + (x : Int) * evZ (cz as) x
    rw [Int.natCast_add, Int.natCast_mul, ev_cz x as]
theorem evZ_app (y c : Int) : ∀ as : List Int, evZ (as ++ [c]) y = evZ as y + c * y ^ as.length
  | [] => by simp [evZ]
  | a :: as => by
    show a + y * evZ (as ++ [c]) y = a + y * evZ as y + c * y ^ (as.length + 1)
    rw [evZ_app y c as, Int.pow_succ]
    grind
theorem evZ_zero (y : Int) (as : List Int) : evZ (as ++ [0]) y = evZ as y := by
  rw [evZ_app]
  grind
def mdN (p : Nat) (z : Int) : Nat := (z % (p : Int)).toNat
theorem mdN_is {p : Nat} (hp : 0 < p) (z : Int) : ((mdN p z : Nat) : Int) = z % (p : Int) := by
  unfold mdN
  have := Int.emod_nonneg z (show (p : Int) ≠ 0 by omega)
  omega
theorem mdN_lt {p : Nat} (hp : 0 < p) (z : Int) : mdN p z < p := by
  have h1 := mdN_is hp z
  have h2 := Int.emod_lt_of_pos z (show (0 : Int) < p by omega)
  omega
theorem mdN_cong {p : Nat} (hp : 0 < p) (z : Int) : (p : Int) ∣ (mdN p z : Int) - z := by
  rw [mdN_is hp z]
  exact ⟨-(z / p), by have := Int.emod_add_mul_ediv z p; grind⟩
def cmb (p : Nat) (c d : Int) (as bs : List Nat) : List Nat := (as.zip bs).map fun ab => mdN p (c * ab.1 + d * ab.2)
theorem cmb_len {p : Nat} {c d : Int} {as bs : List Nat} (h : as.length = bs.length) : (cmb p c d as bs).length = as.length := by
  unfold cmb
  rw [List.length_map, List.length_zip, h, Nat.min_self]
theorem cmb_lt {p : Nat} {c d : Int} {as bs : List Nat} (hp : 0 < p) : ∀ n ∈ cmb p c d as bs, n < p := fun n hn => by
  unfold cmb at hn
  obtain ⟨_, _, rfl⟩ := List.mem_map.mp hn
  exact mdN_lt hp _
theorem cmb_ev {p : Nat} {c d y : Int} (hp : 0 < p) : ∀ {as bs : List Nat}, as.length = bs.length → (p : Int) ∣ evZ (cz (cmb p c d as bs)) y - (c * evZ (cz as) y + d * evZ (cz bs) y)
  | [], [], _ => ⟨0, by simp [cmb, cz, evZ]⟩
  | [], _ :: _, h => by cases h
  | _ :: _, [], h => by cases h
  | a :: as, b :: bs, h => by
    obtain ⟨u, hu⟩ := cmb_ev (c := c) (d := d) (y := y) hp (as := as) (bs := bs) (Nat.succ.inj h)
    obtain ⟨v, hv⟩ := mdN_cong hp (c * a + d * b)
    refine ⟨v + y * u, ?_⟩
    show ((mdN p (c * a + d * b) : Nat) : Int) + y * evZ (cz (cmb p c d as bs)) y - (c * ((a : Int) + y * evZ (cz as) y) + d * ((b : Int) + y * evZ (cz bs) y)) = p * (v + y * u)
    grind
theorem dvd_of {p : Int} {a b : Int} (h : p ∣ a - b) : p ∣ a ↔ p ∣ b := by
  constructor
  · rintro ⟨u, hu⟩
    obtain ⟨v, hv⟩ := h
    exact ⟨u - v, by grind⟩
  · rintro ⟨u, hu⟩
    obtain ⟨v, hv⟩ := h
    exact ⟨u + v, by grind⟩
theorem dvd_tr {p a b c : Int} (h1 : p ∣ a - b) (h2 : p ∣ b - c) : p ∣ a - c := by
  obtain ⟨u, hu⟩ := h1
  obtain ⟨v, hv⟩ := h2
  exact ⟨u + v, by grind⟩
def wrF (p : Nat) (zs : List Nat) (x : Nat) : List Nat := cmb p 1 (-(x : Int)) (0 :: zs) (zs ++ [0])
theorem wr_len {p : Nat} {zs : List Nat} {x : Nat} : (wrF p zs x).length = zs.length + 1 := by
  unfold wrF
  rw [cmb_len (by simp)]
  rfl
theorem wr_ev {p : Nat} {zs : List Nat} {x : Nat} (hp : 0 < p) (y : Int) : (p : Int) ∣ evZ (cz (wrF p zs x)) y - (y - x) * evZ (cz zs) y := by
  unfold wrF
  have h := cmb_ev (p := p) (c := 1) (d := -(x : Int)) (y := y) hp (as := 0 :: zs) (bs := zs ++ [0]) (by simp)
  have e1 : evZ (cz (0 :: zs)) y = y * evZ (cz zs) y := by
    show ((0 : Nat) : Int) + y * evZ (cz zs) y = _
    grind
  have e2 : evZ (cz (zs ++ [0])) y = evZ (cz zs) y := by
    have : cz (zs ++ [0]) = cz zs ++ [0] := by simp [cz]
    rw [this, evZ_zero]
  rw [e1, e2] at h
  have e3 : (1 : Int) * (y * evZ (cz zs) y) + -(x : Int) * evZ (cz zs) y = (y - x) * evZ (cz zs) y := by grind
  rw [e3] at h
  exact h
/-- the rows behind some pairs -/
structure Thr (p : Nat) (ps : List (Nat × Nat)) (row zs : List Nat) : Prop where
  len : row.length = ps.length
  lenz : zs.length = ps.length + 1
  lt : ∀ n ∈ row, n < p
  ltz : ∀ n ∈ zs, n < p
  at_ : ∀ xv ∈ ps, (p : Int) ∣ evZ (cz row) xv.1 - xv.2
  zero : ∀ xv ∈ ps, (p : Int) ∣ evZ (cz zs) xv.1
  only : ∀ y : Int, (p : Int) ∣ evZ (cz zs) y → ∃ xv ∈ ps, (p : Int) ∣ y - xv.1
theorem thr_nil {p : Nat} (hp : IsP p) : Thr p [] [] [1] where
  len := rfl
  lenz := rfl
  lt := fun _ h => absurd h List.not_mem_nil
  ltz := fun n h => by
    rw [List.mem_singleton.mp h]
    exact hp.two
  at_ := fun _ h => absurd h List.not_mem_nil
  zero := fun _ h => absurd h List.not_mem_nil
  only := fun y h => by
    exfalso
    have e : evZ (cz [1]) y = 1 := by
      show ((1 : Nat) : Int) + y * 0 = 1
      grind
    rw [e] at h
    have := Int.le_of_dvd (by decide) h
    have := hp.two
    omega
def tgF (p : Nat) (row zs : List Nat) (t : Int) : List Nat := cmb p 1 t (row ++ [0]) zs
theorem thr_step {p : Nat} {ps : List (Nat × Nat)} {row zs : List Nat} {x v : Nat} {t : Int} (hp : IsP p) (h : Thr p ps row zs) (ht : (p : Int) ∣ evZ (cz row) x + t * evZ (cz zs) x - v) : Thr p (ps ++ [(x, v)]) (tgF p row zs t) (wrF p zs x) := by
  have hp0 : 0 < p := by have := hp.two; omega
  have hl : (row ++ [0]).length = zs.length := by rw [List.length_append, h.len, h.lenz]; rfl
  have key : ∀ y : Int, (p : Int) ∣ evZ (cz (tgF p row zs t)) y - (evZ (cz row) y + t * evZ (cz zs) y) := fun y => by
    have := cmb_ev (p := p) (c := 1) (d := t) (y := y) hp0 hl
    have e2 : evZ (cz (row ++ [0])) y = evZ (cz row) y := by
      have : cz (row ++ [0]) = cz row ++ [0] := by simp [cz]
      rw [this, evZ_zero]
    rw [e2, Int.one_mul] at this
    exact this
  refine ⟨?_, ?_, cmb_lt hp0, cmb_lt hp0, fun xv hx => ?_, fun xv hx => ?_, fun y hy => ?_⟩
  · unfold tgF
    rw [cmb_len hl, List.length_append, List.length_append, h.len]
    rfl
  · rw [wr_len, h.lenz, List.length_append]
    rfl
  · rcases List.mem_append.mp hx with hx | hx
    · refine dvd_tr (key xv.1) ?_
      obtain ⟨u, hu⟩ := h.at_ xv hx
      obtain ⟨w, hw⟩ := h.zero xv hx
      exact ⟨u + t * w, by grind⟩
    · rw [List.mem_singleton.mp hx]
      exact dvd_tr (key x) ht
  · rcases List.mem_append.mp hx with hx | hx
    · rw [dvd_of (wr_ev hp0 xv.1)]
      obtain ⟨w, hw⟩ := h.zero xv hx
      exact ⟨(xv.1 - x) * w, by grind⟩
    · rw [List.mem_singleton.mp hx, dvd_of (wr_ev hp0 x)]
      exact ⟨0, by grind⟩
  · rw [dvd_of (wr_ev hp0 y)] at hy
    rcases euclidZ hp hy with z | z
    · exact ⟨(x, v), List.mem_append_right _ List.mem_cons_self, z⟩
    · obtain ⟨xv, h1, h2⟩ := h.only y z
      exact ⟨xv, List.mem_append_left _ h1, h2⟩
theorem inv_is {p z : Nat} (hp : IsP p) (hz : ¬ p ∣ z) : (p : Int) ∣ (z : Int) * ((z ^ (p - 2) % p : Nat) : Int) - 1 := by
  have h := fermat hp hz
  have h2 := hp.two
  have e : z * z ^ (p - 2) = z ^ (p - 1) := by
    rw [Nat.mul_comm, ← Nat.pow_succ]
    congr 1
    omega
  have e1 : (z * (z ^ (p - 2) % p)) % p = 1 := by
    rw [Nat.mul_mod, Nat.mod_mod, ← Nat.mul_mod, e]
    exact h
  refine ⟨((z * (z ^ (p - 2) % p) / p : Nat) : Int), ?_⟩
  have h4 := Nat.div_add_mod (z * (z ^ (p - 2) % p)) p
  rw [e1] at h4
  have h5 : ((p * (z * (z ^ (p - 2) % p) / p) + 1 : Nat) : Int) = ((z * (z ^ (p - 2) % p) : Nat) : Int) := by rw [h4]
  rw [Int.natCast_add, Int.natCast_mul, Int.natCast_mul] at h5
  generalize ((z ^ (p - 2) % p : Nat) : Int) = A at *
  generalize ((z * (z ^ (p - 2) % p) / p : Nat) : Int) = B at *
  have h6 : ((1 : Nat) : Int) = 1 := rfl
  rw [h6] at h5
  omega
theorem mod_cong {p a : Nat} : (p : Int) ∣ ((a % p : Nat) : Int) - (a : Int) := by
  refine ⟨-((a / p : Nat) : Int), ?_⟩
  have h := Nat.div_add_mod a p
  have h5 : ((p * (a / p) + a % p : Nat) : Int) = (a : Int) := by rw [h]
  rw [Int.natCast_add, Int.natCast_mul] at h5
  grind
/-- the step as the program does it -/
theorem thr_next {p : Nat} {ps : List (Nat × Nat)} {row zs : List Nat} {x v : Nat} (hp : IsP p) (h : Thr p ps row zs) (hx : ∀ xv ∈ ps, ¬ (p : Int) ∣ (x : Int) - xv.1) :
    ¬ p ∣ ev zs x % p ∧ Thr p (ps ++ [(x, v)]) (tgF p row zs (((v : Int) - ((ev row x % p : Nat) : Int)) * (((ev zs x % p) ^ (p - 2) % p : Nat) : Int))) (wrF p zs x) := by
  have hz : ¬ p ∣ ev zs x % p := fun z => by
    have h1 : p ∣ ev zs x := (Nat.dvd_mod_iff (Nat.dvd_refl p)).mp z
    have h2 : (p : Int) ∣ evZ (cz zs) x := by
      rw [← ev_cz]
      exact Int.natCast_dvd_natCast.mpr h1
    obtain ⟨xv, h3, h4⟩ := h.only x h2
    exact hx xv h3 h4
  refine ⟨hz, thr_step hp h ?_⟩
  obtain ⟨a, ha⟩ := inv_is hp hz
  obtain ⟨b, hb⟩ := mod_cong (p := p) (a := ev row x)
  obtain ⟨c, hc⟩ := mod_cong (p := p) (a := ev zs x)
  rw [ev_cz] at hb hc
  generalize (((ev zs x % p) ^ (p - 2) % p : Nat) : Int) = I at *
  generalize ((ev zs x % p : Nat) : Int) = Z at *
  generalize ((ev row x % p : Nat) : Int) = R at *
  generalize evZ (cz row) x = ER at *
  generalize evZ (cz zs) x = EZ at *
  refine ⟨-b + (v - R) * a - (v - R) * I * c, ?_⟩
  grind
/-! ### rows are told by their values -/
def qt : List Int → Int → List Int
  | [], _ => []
  | [_], _ => []
  | _ :: d :: ds, x => evZ (d :: ds) x :: qt (d :: ds) x
theorem qt_len (x : Int) : ∀ ds : List Int, (qt ds x).length = ds.length - 1
  | [] => rfl
  | [_] => rfl
  | _ :: d :: ds => by
    show (qt (d :: ds) x).length + 1 = ds.length + 1 + 1 - 1
    rw [qt_len x (d :: ds)]
    simp
theorem qt_ev (x y : Int) : ∀ ds : List Int, evZ ds y - evZ ds x = (y - x) * evZ (qt ds x) y
  | [] => by simp [evZ, qt]
  | [c] => by simp [evZ, qt]
  | c :: d :: ds => by
    have ih := qt_ev x y (d :: ds)
    show c + y * evZ (d :: ds) y - (c + x * evZ (d :: ds) x) = (y - x) * (evZ (d :: ds) x + y * evZ (qt (d :: ds) x) y)
    grind
theorem qt_zero {p x : Int} : ∀ ds : List Int, (∀ c ∈ qt ds x, p ∣ c) → p ∣ evZ ds x → ∀ c ∈ ds, p ∣ c
  | [], _, _ => fun c h => absurd h List.not_mem_nil
  | [c], _, h => fun e he => by
    rw [List.mem_singleton.mp he]
    have : evZ [c] x = c := by show c + x * 0 = c; grind
    rw [this] at h
    exact h
  | c :: d :: ds, hq, h => fun e he => by
    have h1 : p ∣ evZ (d :: ds) x := hq _ List.mem_cons_self
    have ih := qt_zero (d :: ds) (fun z hz => hq z (List.mem_cons_of_mem _ hz)) h1
    rcases List.mem_cons.mp he with rfl | he
    · obtain ⟨u, hu⟩ := h
      obtain ⟨w, hw⟩ := h1
      have hu : e + x * evZ (d :: ds) x = p * u := hu
      exact ⟨u - x * w, by grind⟩
    · exact ih e he
theorem roots_zero {p : Nat} (hp : IsP p) : ∀ (xs : List Nat) (ds : List Int), ds.length = xs.length → xs.Pairwise (fun (a b : Nat) => ¬ (p : Int) ∣ (b : Int) - (a : Int)) → (∀ x ∈ xs, (p : Int) ∣ evZ ds x) → ∀ c ∈ ds, (p : Int) ∣ c
  | [], ds, hl, _, _ => fun c hc => by
    rw [List.eq_nil_of_length_eq_zero hl] at hc
    cases hc
  | x :: xs, ds, hl, hd, hx => by
    have hd' := List.pairwise_cons.mp hd
    refine qt_zero (x := x) ds (roots_zero hp xs (qt ds x) (by rw [qt_len, hl]; rfl) hd'.2 fun y hy => ?_) (hx x List.mem_cons_self)
    obtain ⟨u, hu⟩ := hx x List.mem_cons_self
    obtain ⟨w, hw⟩ := hx y (List.mem_cons_of_mem _ hy)
    have h := qt_ev x y ds
    have h1 : (p : Int) ∣ ((y : Int) - x) * evZ (qt ds x) y := ⟨w - u, by grind⟩
    rcases euclidZ hp h1 with z | z
    · exact absurd z (hd'.1 y hy)
    · exact z
def sbZ : List Nat → List Nat → List Int
  | a :: as, b :: bs => ((a : Int) - b) :: sbZ as bs
  | _, _ => []
theorem sb_len : ∀ as bs : List Nat, as.length = bs.length → (sbZ as bs).length = as.length
  | [], [], _ => rfl
  | [], _ :: _, h => by cases h
  | _ :: _, [], h => by cases h
  | a :: as, b :: bs, h => by
    show (sbZ as bs).length + 1 = as.length + 1
    rw [sb_len as bs (Nat.succ.inj h)]
theorem sb_ev (y : Int) : ∀ as bs : List Nat, as.length = bs.length → evZ (sbZ as bs) y = evZ (cz as) y - evZ (cz bs) y
  | [], [], _ => rfl
  | [], _ :: _, h => by cases h
  | _ :: _, [], h => by cases h
  | a :: as, b :: bs, h => by
    have ih := sb_ev y as bs (Nat.succ.inj h)
    show ((a : Int) - b) + y * evZ (sbZ as bs) y = ((a : Int) + y * evZ (cz as) y) - ((b : Int) + y * evZ (cz bs) y)
    grind
theorem sb_eq {p : Nat} : ∀ as bs : List Nat, as.length = bs.length → (∀ n ∈ as, n < p) → (∀ n ∈ bs, n < p) → (∀ c ∈ sbZ as bs, (p : Int) ∣ c) → as = bs
  | [], [], _, _, _, _ => rfl
  | [], _ :: _, h, _, _, _ => by cases h
  | _ :: _, [], h, _, _, _ => by cases h
  | a :: as, b :: bs, h, ha, hb, hc => by
    have ih := sb_eq as bs (Nat.succ.inj h) (fun n hn => ha n (List.mem_cons_of_mem _ hn)) (fun n hn => hb n (List.mem_cons_of_mem _ hn)) (fun c hc' => hc c (List.mem_cons_of_mem _ hc'))
    obtain ⟨u, hu⟩ := hc _ List.mem_cons_self
    have h1 := ha a List.mem_cons_self
    have h2 := hb b List.mem_cons_self
    have : u = 0 := by
      rcases Int.lt_trichotomy u 0 with l | l | l
      · have : (p : Int) * u ≤ (p : Int) * (-1) := Int.mul_le_mul_of_nonneg_left (by omega) (by omega)
        omega
      · exact l
      · have : (p : Int) * 1 ≤ (p : Int) * u := Int.mul_le_mul_of_nonneg_left (by omega) (by omega)
        omega
    rw [this, Int.mul_zero] at hu
    rw [ih, show a = b by omega]
theorem row_one {p : Nat} {as bs xs : List Nat} (hp : IsP p) (hl : as.length = xs.length) (hl2 : bs.length = xs.length) (ha : ∀ n ∈ as, n < p) (hb : ∀ n ∈ bs, n < p) (hd : xs.Pairwise (fun (a b : Nat) => ¬ (p : Int) ∣ (b : Int) - (a : Int))) (h : ∀ x ∈ xs, (p : Int) ∣ evZ (cz as) x - evZ (cz bs) x) : as = bs := by
  have e : as.length = bs.length := by omega
  refine sb_eq as bs e ha hb (roots_zero hp xs (sbZ as bs) (by rw [sb_len as bs e, hl]) hd fun x hx => ?_)
  rw [sb_ev _ as bs e]
  exact h x hx
end Bf
namespace Bf
open PySem PySem.Spec PyProof.Rows L2 LamX NdefX
/-! ### small things for k11 -/
theorem pigeon {l : List Nat} {n : Nat} (nd : l.Nodup) (h : ∀ x ∈ l, x < n) : l.length ≤ n := by
  have p : l.Perm ((List.range n).filter fun x => decide (x ∈ l)) := by
    refine (List.perm_ext_iff_of_nodup nd (List.Pairwise.filter _ List.nodup_range)).mpr fun x => ?_
    rw [List.mem_filter, List.mem_range]
    exact ⟨fun hx => ⟨h x hx, decide_eq_true hx⟩, fun hx => of_decide_eq_true hx.2⟩
  rw [p.length_eq]
  have := List.length_filter_le (fun x => decide (x ∈ l)) (List.range n)
  rw [List.length_range] at this
  exact this
structure GI (q j s : Nat) (P W : List Nat) (ps : List (Nat × Nat)) : Prop where
  nd : (P ++ W).Nodup
  lt : ∀ x ∈ P ++ W, x < 2 ^ q
  src : s ∈ P ++ W
  par : ∀ x ∈ P ++ W, x ≠ s → tl q j s x ∈ P
  pnd : (ps.map (·.2)).Nodup
  pm : ∀ x, x ∈ ps.map (·.2) ↔ x < 2 ^ q ∧ tl q j s x ∈ P
  pt : ∀ pr ∈ ps, pr.1 = tl q j s pr.2
  cls : ∀ h x, h ∈ P → x < 2 ^ q → tl q j s x = h → x ≠ s → x ∈ P ++ W
theorem GI.start {q j s : Nat} (hs : s < 2 ^ q) : GI q j s [] [s] [] where
  nd := by simp
  lt := fun x hx => by
    have : x = s := by simpa using hx
    rw [this]
    exact hs
  src := by simp
  par := fun x hx hne => absurd (by simpa using hx) hne
  pnd := List.Pairwise.nil
  pm := fun x => by simp
  pt := fun pr h => absurd h List.not_mem_nil
  cls := fun h x hh => absurd hh List.not_mem_nil
theorem GI.step {q j s h : Nat} {P W ns : List Nat} {ps : List (Nat × Nat)} (g : GI q j s P (W ++ [h]) ps) (nn : ns.Nodup) (hn : ∀ x, x ∈ ns ↔ x < 2 ^ q ∧ tl q j s x = h) :
    GI q j s (P ++ [h]) (W ++ ns.filter fun x => !decide (x = s)) (ps ++ ns.map fun x => (h, x)) := by
  have hp : (P ++ (W ++ [h])).Perm (P ++ [h] ++ W) := by
    rw [List.append_assoc]
    exact List.Perm.append_left P List.perm_append_comm
  have nd1 : (P ++ [h] ++ W).Nodup := hp.nodup_iff.mp g.nd
  have hP : h ∉ P := fun z => by
    have := List.nodup_append.mp g.nd
    exact this.2.2 h z h (by simp) rfl
  have old : ∀ x, x ∈ P ++ [h] ++ W ↔ x ∈ P ++ (W ++ [h]) := fun x => hp.mem_iff.symm
  have fil : ∀ x, x ∈ ns.filter (fun x => !decide (x = s)) ↔ (x < 2 ^ q ∧ tl q j s x = h) ∧ x ≠ s := fun x => by
    rw [List.mem_filter, hn]
    simp
  refine ⟨?_, ?_, ?_, ?_, ?_, ?_, ?_, ?_⟩
  · rw [← List.append_assoc]
    refine List.nodup_append.mpr ⟨nd1, List.Pairwise.filter _ nn, fun a ha b hb e => ?_⟩
    subst e
    obtain ⟨⟨_, h2⟩, h3⟩ := (fil a).mp hb
    have := g.par a ((old a).mp ha) h3
    rw [h2] at this
    exact hP this
  · intro x hx
    rw [← List.append_assoc] at hx
    rcases List.mem_append.mp hx with hx | hx
    · exact g.lt x ((old x).mp hx)
    · exact ((fil x).mp hx).1.1
  · rw [← List.append_assoc]
    exact List.mem_append_left _ ((old s).mpr g.src)
  · intro x hx hne
    rw [← List.append_assoc] at hx
    rcases List.mem_append.mp hx with hx | hx
    · exact List.mem_append_left _ (g.par x ((old x).mp hx) hne)
    · rw [((fil x).mp hx).1.2]
      simp
  · have e : (ps ++ ns.map fun x => (h, x)).map (·.2) = ps.map (·.2) ++ ns := by
      rw [List.map_append, List.map_map]
      congr 1
      exact (List.map_congr_left fun x _ => rfl).trans (List.map_id ns)
    rw [e]
    refine List.nodup_append.mpr ⟨g.pnd, nn, fun a ha b hb e => ?_⟩
    subst e
    have h1 := ((g.pm a).mp ha).2
    rw [((hn a).mp hb).2] at h1
    exact hP h1
  · intro x
    have e : (ps ++ ns.map fun x => (h, x)).map (·.2) = ps.map (·.2) ++ ns := by
      rw [List.map_append, List.map_map]
      congr 1
      exact (List.map_congr_left fun x _ => rfl).trans (List.map_id ns)
    rw [e, List.mem_append, g.pm, hn, List.mem_append, List.mem_singleton]
    constructor
    · rintro (⟨a, b⟩ | ⟨a, b⟩)
      · exact ⟨a, .inl b⟩
      · exact ⟨a, .inr b⟩
    · rintro ⟨a, b | b⟩
      · exact .inl ⟨a, b⟩
      · exact .inr ⟨a, b⟩
  · intro pr hpr
    rcases List.mem_append.mp hpr with hpr | hpr
    · exact g.pt pr hpr
    · obtain ⟨x, hx, rfl⟩ := List.mem_map.mp hpr
      exact ((hn x).mp hx).2.symm
  · intro h' x hh' hx ht hne
    rw [← List.append_assoc]
    rcases List.mem_append.mp hh' with z | z
    · exact List.mem_append_left _ ((old x).mpr (g.cls h' x z hx ht hne))
    · rw [List.mem_singleton.mp z] at ht
      exact List.mem_append_right _ ((fil x).mpr ⟨⟨hx, ht⟩, hne⟩)
theorem tl_lt {q j s x : Nat} (hj : j < q) (hx : x < 2 ^ q) : tl q j s x < 2 ^ q := Nat.xor_lt_two_pow hx (Nat.pow_lt_pow_right (by decide) (cl_lt hj (List.getLast_mem _)))
theorem GI.all {q j s : Nat} {P : List Nat} {ps : List (Nat × Nat)} (hj : j < q) (hs : s < 2 ^ q) (g : GI q j s P [] ps) : ∀ x, x ∈ ps.map (·.2) ↔ x < 2 ^ q := fun x => by
  have src : s ∈ P := by simpa using g.src
  have all : ∀ y, y < 2 ^ q → y ∈ P := fun y hy => by
    by_cases e : y = s
    · rw [e]
      exact src
    · exact reach (P := fun z => z ∈ P) hj hs src (fun h x a b c d => by simpa using g.cls h x a b c d) _ y hy (Nat.le_refl _) e
  rw [g.pm]
  exact ⟨fun h => h.1, fun h => ⟨h, all _ (tl_lt hj h)⟩⟩
theorem GI.len {q j s : Nat} {P W : List Nat} {ps : List (Nat × Nat)} (g : GI q j s P W ps) : ps.length ≤ 2 ^ q ∧ P.length ≤ 2 ^ q := by
  constructor
  · have := pigeon g.pnd (n := 2 ^ q) fun x hx => ((g.pm x).mp hx).1
    rw [List.length_map] at this
    exact this
  · have := pigeon g.nd g.lt
    rw [List.length_append] at this
    omega
/-- a while whose measure stands in the invariant -/
theorem while_m {c : TT} {tb : TS} {D : Ends} {σ : L2.St} {H : Hp} (Pv : Nat → L2.St → Hp → Prop) (Ex : L2.St → Hp → Prop) (h0 : ∃ m, Pv m σ H)
    (hs : ∀ m σ H, Pv m σ H → c σ H fun b H1 => if b = true then tb { D with nx := fun σ' H' => ∃ m', m' < m ∧ Pv m' σ' H', ct := fun σ' H' => ∃ m', m' < m ∧ Pv m' σ' H', bk := D.nx } σ H1 else Ex σ H1)
    (he : ∀ σ H, Ex σ H → D.nx σ H) (mono : ∀ σ H Q Q', (∀ b H1, Q b H1 → Q' b H1) → c σ H Q → c σ H Q') : tWhile c tb D σ H := by
  refine ⟨Pv, h0, fun m σ H p => mono σ H _ _ (fun b H1 q => ?_) (hs m σ H p)⟩
  cases b with
  | true =>
    rw [if_pos rfl] at q
    first
      | exact q
      | exact iteT q
      | (rw [if_pos rfl]; exact ⟨_, fun σ' H' h => h, q⟩)
      | exact ⟨_, fun σ' H' h => h, q⟩
  | false =>
    rw [if_neg (by decide)] at q
    first
      | exact he _ _ q
      | (rw [if_neg (by decide)]; exact he _ _ q)
end Bf
namespace Bf
open PySem PySem.Spec PyProof.Rows L2 LamX NdefX
/-! ### what is never come to -/
theorem ps_dead {X : Cx} {st : Stmt} : PS X st (fun _ _ _ => False) := ⟨fun _ _ _ _ _ _ h => h.elim⟩
theorem cat_gen {K : PySem.W.Frag} {a b : Addr} {xs ys : List V} {H : Hp} {Q : VK} (ha : SqT K H a xs) (hb : SqT K H b ys) (hl : xs.length + ys.length ≤ sizeLine) (h : ∀ q H', Same H H' → SqT K H' q (xs ++ ys) → Q (.ref q) H') : rCatA K (.ref a) (.ref b) H Q := by
  refine ⟨a, b, xs, ys, rfl, rfl, ha, hb, hl, fun e => h b H (Same.refl H) (by rw [e]; exact hb), fun _ e => h a H (Same.refl H) (by rw [e, List.append_nil]; exact ha), fun _ _ p np => h p _ (same_new (Same.refl H) np) (.inl (.inl upd_same))⟩
theorem cmb_take {p i : Nat} {c d : Int} {as bs : List Nat} {x y : Nat} (hx : as[i]? = some x) (hy : bs[i]? = some y) : cmb p c d (as.take (i + 1)) (bs.take (i + 1)) = cmb p c d (as.take i) (bs.take i) ++ [mdN p (c * x + d * y)] := by
  have hi := (List.getElem?_eq_some_iff.mp hx).1
  have hi2 := (List.getElem?_eq_some_iff.mp hy).1
  unfold cmb
  rw [List.take_add_one, List.take_add_one, hx, hy, List.zip_append (by rw [List.length_take, List.length_take]; omega), List.map_append]
  rfl
/-- pairs of numbers -/
def PrS (H : Hp) (vs : List V) (ps : List (Nat × Nat)) : Prop := vs.length = ps.length ∧ ∀ (i : Nat) (xv : Nat × Nat), ps[i]? = some xv → ∃ r : Addr, vs[i]? = some (V.ref r) ∧ H r = some (.tup (nv [xv.1, xv.2]))
theorem PrS.same {H H' : Hp} {vs : List V} {ps : List (Nat × Nat)} (h : PrS H vs ps) (s : Same H H') : PrS H' vs ps := ⟨h.1, fun i xv e => let ⟨r, h1, h2⟩ := h.2 i xv e; ⟨r, h1, s _ _ h2⟩⟩
theorem PrS.take {H : Hp} {vs : List V} {ps : List (Nat × Nat)} (h : PrS H vs ps) (k : Nat) : PrS H (vs.take k) (ps.take k) := by
  refine ⟨by rw [List.length_take, List.length_take, h.1], fun i xv e => ?_⟩
  rw [List.getElem?_take] at e
  by_cases c : i < k
  · rw [if_pos c] at e
    obtain ⟨r, h1, h2⟩ := h.2 i xv e
    exact ⟨r, by rw [List.getElem?_take, if_pos c]; exact h1, h2⟩
  · rw [if_neg c] at e
    cases e
theorem PrS.drop {H : Hp} {vs : List V} {ps : List (Nat × Nat)} (h : PrS H vs ps) (k : Nat) : PrS H (vs.drop k) (ps.drop k) := by
  refine ⟨by rw [List.length_drop, List.length_drop, h.1], fun i xv e => ?_⟩
  rw [List.getElem?_drop] at e
  obtain ⟨r, h1, h2⟩ := h.2 (k + i) xv e
  exact ⟨r, by rw [List.getElem?_drop]; exact h1, h2⟩
theorem cut_take {xs : List V} {n : Nat} : cutV xs none (some (n : Int)) = xs.take n := by
  unfold cutV
  rw [HT.sIx_none, HT.sIx_nat, List.drop_zero, Nat.sub_zero]
  rcases Nat.le_total n xs.length with l | l
  · rw [Nat.min_eq_left l]
  · rw [Nat.min_eq_right l, List.take_of_length_le l, List.take_length]
theorem cut_drop {xs : List V} {n : Nat} : cutV xs (some (n : Int)) none = xs.drop n := by
  unfold cutV
  rw [HT.sIx_none, HT.sIx_nat]
  rcases Nat.le_total n xs.length with l | l
  · rw [Nat.min_eq_left l, List.take_of_length_le (by rw [List.length_drop]; omega)]
  · rw [Nat.min_eq_right l, List.drop_length, List.drop_of_length_le l, List.take_nil]
theorem slT {K : PySem.W.Frag} {H : Hp} {a : Addr} {xs ys : List V} {lo hi : Option Int} {Q : VK} (h : H a = some (.tup xs)) (e : cutV xs lo hi = ys) (q : ∀ H' p, Same H H' → H' p = some (.tup ys) → Q (.ref p) H') : rSlA K (.ref a) lo hi H Q := by
  refine ⟨a, xs, rfl, .inl (.inl h), fun w => q H a (Same.refl H) ?_, fun _ p np => q _ p (same_new (Same.refl H) np) (by rw [upd_same, e])⟩
  have : cutV xs lo hi = xs := by
    unfold cutV
    rw [w.1, w.2, List.drop_zero, Nat.sub_zero, List.take_length]
  rw [← e, this]
  exact h
theorem half_pow {P S L p : Nat} : (if L % 2 = 1 then P * S % p else P) * (S * S % p) ^ (L / 2) % p = P * S ^ L % p := by
  have e : (S * S % p) ^ (L / 2) % p = (S * S) ^ (L / 2) % p := by rw [← Nat.pow_mod]
  have e2 : (S * S) ^ (L / 2) = S ^ (2 * (L / 2)) := by rw [Nat.pow_mul, Nat.pow_two]
  by_cases c : L % 2 = 1
  · rw [if_pos c, Nat.mul_mod, e, Nat.mod_mod, ← Nat.mul_mod, e2, Nat.mul_assoc, ← Nat.pow_succ']
    congr 3
    omega
  · rw [if_neg c, Nat.mul_mod, e, ← Nat.mul_mod, e2]
    congr 3
    omega
section
variable {P : Program} {w : World} {K : PySem.W.Frag} {mg : Str → Option Value} {base : Heap} {f fRai fInv fVa fWr fTg fVs : Addr} {fd fdRai fdInv fdVa fdWr fdTg fdVs : FuncData} {k : Nat}
/-! ### raised, inverse -/
theorem scRai : FnScope ["n", "base", "exponent", "power", "square", "left"] ["n", "base", "exponent"] (defScope sRai) := ⟨rfl, rfl, rfl, by decide +kernel, rfl, by decide +kernel, by decide +kernel⟩
def spRai : Sp := fun vs H Q _ => ∃ p b e : Nat, vs = [.int p, .int b, .int e] ∧ 2 ≤ p ∧ p ≤ 1000000000 ∧ Q (.int ((b ^ e % p : Nat) : Int)) H
theorem ok_rai (F : Fun K "raised" "raised" sRai f fd) : FnOk P w K mg base CX0 (k + 1) f fd ["n", "base", "exponent"] spRai := by
  refine F.ok scRai (fun vs H Q E h => ?_) (fun cdv A outer s H vs Q E hr h => ?_)
  · obtain ⟨a, b, c, rfl, _⟩ := h
    rfl
  · obtain ⟨p, b, e, rfl, hp, hp9, fin⟩ := h
    have hp0 : 0 < p := by omega
    refine ⟨_, pss_cons (ps_set (i := 3) scRai.nd rfl (.inl rfl) pe_int)
      (pss_cons (ps_set (i := 4) scRai.nd rfl (.inl rfl) (pe_op op_modNN (pv 1) (pv 0)))
      (pss_cons (ps_set (i := 5) scRai.nd rfl (.inl rfl) (pv 2))
      (pss_cons (ps_while PassesOwn.never (pt_cmpR op_gt (pv 5) pe_int (nomark _))
        (pss_cons (ps_if (pt_cmpR op_eq (pe_op op_modNN (pv 5) pe_int) pe_int (nomark _)) (pss_one (ps_set (i := 3) scRai.nd rfl (.inl rfl) (pe_op op_modNN (pe_op op_mulNN (pv 3) (pv 4)) (pv 0)))) pss_nil)
        (pss_cons (ps_set (i := 4) scRai.nd rfl (.inl rfl) (pe_op op_modNN (pe_op op_mulNN (pv 4) (pv 4)) (pv 0)))
        (pss_one (ps_aug (i := 5) scRai.nd rfl (.inl rfl) pe_int iop_fdiv)))))
      (pss_one (ps_ret (pv 3)))))), ?_⟩
    refine ⟨.int b, rfl, .int p, rfl, b, p, rfl, rfl, hp0, .int e, rfl, ?_⟩
    refine while_m (fun n σ H' => ∃ (Pw Sq : Nat), σ = [some (.int p), some (.int b), some (.int e), some (.int (Pw : Nat)), some (.int (Sq : Nat)), some (.int (n : Nat))] ∧ H' = H ∧ Pw < p ∧ Sq < p ∧ Pw * Sq ^ n % p = b ^ e % p)
      (fun σ H' => σ = [some (.int p), some (.int b), some (.int e), some (.int ((b ^ e % p : Nat) : Int)), σ[4]?.join, σ[5]?.join] ∧ H' = H)
      ⟨e, 1, b % p, rfl, rfl, by omega, Nat.mod_lt _ hp0, by rw [Nat.one_mul, ← Nat.pow_mod]⟩ ?_ ?_ ?_
    · rintro n σ H' ⟨Pw, Sq, rfl, rfl, h1, h2, h3⟩
      refine ⟨_, rfl, _, _, rfl, rfl, _, rfl, ?_⟩
      by_cases z : n = 0
      · subst z
        rw [decide_eq_false (by decide)]
        refine iteF ⟨?_, rfl⟩
        rw [Nat.pow_zero, Nat.mul_one, Nat.mod_eq_of_lt h1] at h3
        rw [← h3]
        rfl
      · rw [decide_eq_true (show (0 : Int) < (n : Int) by omega)]
        refine iteT ?_
        dsimp only [gName, tSeq]
        refine rd_ifSet (decide (V.int ((n % 2 : Nat) : Int) = V.int 1)) (fun x H'' => x = .int ((if n % 2 = 1 then Pw * Sq % p else Pw : Nat) : Int) ∧ H'' = H') ?_ ?_ ?_ ?_
        · exact fun Q' z => ⟨_, rfl, n, 2, rfl, rfl, by decide, rfl, _, rfl, z⟩
        · intro b' Q' zz
          have : n % 2 = 1 := by have := V.int.inj (of_decide_eq_true b'); omega
          refine ⟨_, rfl, _, rfl, Pw, Sq, rfl, rfl, by omega, .int p, rfl, Pw * Sq, p, rfl, rfl, hp0, zz _ _ ⟨by rw [if_pos this], rfl⟩⟩
        · intro b'
          have : ¬ n % 2 = 1 := fun z' => by rw [z'] at b'; exact absurd b' (by decide)
          exact ⟨_, rfl, by rw [if_neg this], rfl⟩
        · rintro x H'' ⟨rfl, rfl⟩
          refine ⟨_, rfl, _, rfl, Sq, Sq, rfl, rfl, by omega, .int p, rfl, Sq * Sq, p, rfl, rfl, hp0, ?_⟩
          refine ⟨_, rfl, _, _, rfl, rfl, ⟨by decide, by decide⟩, n / 2, by omega, (if n % 2 = 1 then Pw * Sq % p else Pw), Sq * Sq % p, ?_, rfl, ?_, Nat.mod_lt _ hp0, ?_⟩
          · have : ((n : Nat) : Int) / 2 = ((n / 2 : Nat) : Int) := by omega
            rw [← this]
            rfl
          · split
            · exact Nat.mod_lt _ hp0
            · exact h1
          · rw [half_pow]
            exact h3
    · rintro σ H' ⟨e1, rfl⟩
      rw [e1]
      exact ⟨_, rfl, fin⟩
    · intro σ H1 Q1 Q2 hq12 hc
      obtain ⟨a1, b1, c1, d1, e1, f1, g1, h1, i1⟩ := hc
      exact ⟨a1, b1, c1, d1, e1, f1, g1, h1, hq12 _ _ i1⟩
theorem scInv : FnScope ["p", "n"] ["p", "n"] (defScope sInv) := ⟨rfl, rfl, rfl, by decide +kernel, rfl, by decide +kernel, by decide +kernel⟩
def spInv : Sp := fun vs H Q _ => ∃ p n : Nat, vs = [.int p, .int n] ∧ 2 ≤ p ∧ p ≤ 1000000000 ∧ ¬ p ∣ n ∧ Q (.int ((n ^ (p - 2) % p : Nat) : Int)) H
theorem ok_inv (F : Fun K "inverse" "inverse" sInv f fd) (GR : FnOk P w K mg base CX0 1 fRai fdRai ["n", "base", "exponent"] spRai) (kR : PySem.W.keepIn K (.ref fRai) = true) (bR : Binds K fdRai ["n", "base", "exponent"] []) (gR : mg "raised" = some (.ref fRai)) :
    FnOk P w K mg base CX0 2 f fd ["p", "n"] spInv := by
  refine F.ok scInv (fun vs H Q E h => ?_) (fun cdv A outer s H vs Q E hr h => ?_)
  · obtain ⟨a, b, rfl, _⟩ := h
    rfl
  · obtain ⟨p, n, rfl, hp, hp9, hn, fin⟩ := h
    refine ⟨_, pss_cons (ps_if (pt_cmpR op_eq (pe_op op_modNN (pv 1) (pv 0)) pe_int (nomark _)) (pss_one ps_dead) pss_nil)
      (pss_one (ps_ret (pe_call GR (hr.mono (by decide)) (by rfl) gR kR bR .nil pass0 (pa_cons (pv 0) (pa_cons (pv 1) (pa_cons (pe_op op_subN (pv 0) pe_int) pa_nil)))))), ?_⟩
    refine ⟨.int n, rfl, .int p, rfl, n, p, rfl, rfl, by omega, rfl, _, rfl, ?_⟩
    have : ¬ V.int ((n % p : Nat) : Int) = V.int 0 := fun z => hn (Nat.dvd_of_mod_eq_zero (by have := V.int.inj z; omega))
    rw [decide_eq_false this]
    exact iteF ⟨.int p, rfl, .int n, rfl, .int p, rfl, p, 2, rfl, rfl, hp, p, n, p - 2, rfl, hp, hp9, fin⟩
/-! ### with_root -/
theorem scWr : FnScope ["p", "row", "x", "higher", "number"] ["p", "row", "x"] (defScope sWr) := ⟨rfl, rfl, rfl, by decide +kernel, rfl, by decide +kernel, by decide +kernel⟩
def spWr (K : PySem.W.Frag) : Sp := fun vs H Q _ => ∃ (p x : Nat) (a : Addr) (ns : List Nat), vs = [.int p, .ref a, .int x] ∧ 2 ≤ p ∧ p ≤ 1000000000 ∧ (∀ n ∈ ns, n < p) ∧ ns.length ≤ 100 ∧ H a = some (.tup (nv ns)) ∧ ∀ H' q, Same H H' → H' q = some (.tup (nv (wrF p ns x))) → Q (.ref q) H'
theorem ok_wr (F : Fun K "with_root" "with_root" sWr f fd) (mz : mg "zip" = none) (mt : mg "tuple" = none) : FnOk P w K mg base CX0 (k + 1) f fd ["p", "row", "x"] (spWr K) := by
  refine F.ok scWr (fun vs H Q E h => ?_) (fun cdv A outer s H vs Q E hr h => ?_)
  · obtain ⟨a, b, c, d, rfl, _⟩ := h
    rfl
  · obtain ⟨p, x, a, ns, rfl, hp, hp9, hlt, hl, hS, fin⟩ := h
    refine ⟨_, pss_one (ps_ret (pe_callTy call_tuple_of (by rfl) mt (by decide +kernel) (pa_cons (pe_lc (own := [("higher", 3), ("number", 4)]) (g := gTup K 2 (gCons (gName 3) (gCons (gName 4) gNil))) (by rfl) scWr.nd (RZ.pi_zipA (by rfl) mz (pa_cons (pe_op op_catA (pe_tup (pa_cons pe_int pa_nil)) (pv 1)) (pa_cons (pe_op op_catA (pv 1) (pe_tup (pa_cons pe_int pa_nil))) pa_nil)))
        (blkOk_by (own := [("higher", 3), ("number", 4)]) (N := ["p", "row", "x", "higher", "number"]) (sc := defScope sWr) (by decide +kernel)) (fun _ _ _ _ _ => pg_tup (by rfl) (pgs_cons (pg_name (i := 3) scWr.nd rfl (Or.inl rfl)) (pgs_cons (pg_name (i := 4) scWr.nd rfl (Or.inl rfl)) pgs_nil)))
        (fun _ _ _ _ _ => pts_nil) (fun _ _ _ _ _ => pe_op op_mod (pe_op op_sub (pv 3) (pe_op op_mul (pv 2) (pv 4))) (pv 0))) pa_nil))), ?_⟩
    refine ⟨(by show 1 ≤ sizeLine; decide), fun z1 m1 => ⟨.ref a, rfl, ?_⟩⟩
    have s1 : Same H (upd H z1 (.tup [V.int 0])) := same_new (Same.refl H) m1
    refine cat_gen (.inl (.inl upd_same)) (.inl (.inl (s1 _ _ hS))) (by rw [nv_len]; exact Nat.le_of_lt (small1000 (by show 1 + ns.length ≤ 1000; omega))) fun l1 H2 s2 e2 => ?_
    have sH2 := s1.trans s2
    refine ⟨.ref a, rfl, (by show 1 ≤ sizeLine; decide), fun z3 m3 => ?_⟩
    have s3 : Same H2 (upd H2 z3 (.tup [V.int 0])) := same_new (Same.refl H2) m3
    refine cat_gen (.inl (.inl ((sH2.trans s3) _ _ hS))) (.inl (.inl upd_same)) (by rw [nv_len]; exact Nat.le_of_lt (small1000 (by show ns.length + 1 ≤ 1000; omega))) fun l2 H4 s4 e4 => ?_
    have s24 := s3.trans s4
    have e24 : SqT K H4 l1 (nv (0 :: ns)) := sameT s24 e2
    have e44 : SqT K H4 l2 (nv (ns ++ [0])) := by
      have : nv (ns ++ [0]) = nv ns ++ [V.int 0] := by simp [nv]
      rw [this]
      exact e4
    have hlen : (0 :: ns).length = (ns ++ [0]).length := by simp
    refine ⟨l1, l2, _, _, rfl, .inr ⟨e24, e44, fun D nD => lc_it (walk_zipT (n := (0 :: ns).length) (xs := nv (0 :: ns)) (ys := nv (ns ++ [0])) (by rw [nv_len, nv_len]; omega)) (fun i H' => Same H4 H' ∧ H' D = some (.lst (nv (cmb p 1 (-(x : Int)) ((0 :: ns).take i) ((ns ++ [0]).take i))))) ⟨same_new (Same.refl H4) nD, upd_same⟩ ?_ ?_ ?_⟩⟩
    · rintro i H' _ ⟨xx, _⟩
      exact ⟨sameT xx e24, sameT xx e44⟩
    · rintro i v HD HE hi ⟨xD, eD⟩ ⟨Tp, vx, vy, rfl, nT, rfl, ex, ey⟩
      obtain ⟨h1, hh1, rfl⟩ := nv_get' ex
      obtain ⟨n1, hn1, rfl⟩ := nv_get' ey
      have xE : Same HD (upd HD Tp (.tup [V.int (h1 : Nat), V.int (n1 : Nat)])) := same_new (Same.refl HD) nT
      refine ⟨Tp, _, rfl, .inl (.inl upd_same), rfl, _, _, rfl, _, _, rfl, rfl, rfl, yes ?_⟩
      have eD2 := xE _ _ eD
      have hn1p : n1 < p := by
        rcases List.mem_append.mp (List.mem_of_getElem? hn1) with z | z
        · exact hlt n1 z
        · rw [List.mem_singleton.mp z]; omega
      refine ⟨_, rfl, .int x, rfl, _, rfl, _, _, rfl, rfl, .inr ⟨by omega, by omega⟩, _, _, rfl, rfl, .int p, rfl, _, _, rfl, rfl, (show (0 : Int) < (p : Int) by omega), _, eD2, ?_, fun b' o z => ?_, ?_⟩
      · rw [nv_len]
        unfold cmb
        rw [List.length_map, List.length_zip, List.length_take, List.length_take]
        have : (0 :: ns).length = ns.length + 1 := rfl
        exact small1000 (by omega)
      · rw [upd_ne (ne_of_none z nD)]
        exact xE _ _ (xD b' o z)
      · rw [upd_same, cmb_take hh1 hn1]
        have em : ((mdN p (1 * (h1 : Int) + -(x : Int) * (n1 : Int)) : Nat) : Int) = ((h1 : Int) - (x : Int) * (n1 : Int)) % (p : Int) := by
          rw [mdN_is (by omega)]
          congr 1
          grind
        unfold nv
        rw [List.map_append]
        show some (HO.lst (_ ++ [V.int (((h1 : Int) - (x : Int) * (n1 : Int)) % (p : Int))])) = some (HO.lst (_ ++ [V.int ((mdN p (1 * (h1 : Int) + -(x : Int) * (n1 : Int)) : Nat) : Int)]))
        rw [em]
    · rintro HD ⟨xD, eD⟩
      have e9 : cmb p 1 (-(x : Int)) ((0 :: ns).take (0 :: ns).length) ((ns ++ [0]).take (0 :: ns).length) = wrF p ns x := by rw [List.take_length, hlen, List.take_length]; rfl
      rw [e9] at eD
      exact ⟨D, _, rfl, .inl ⟨.inl (.inl eD), fun q nq => fin _ q (same_new ((sH2.trans s24).trans xD) nq) upd_same⟩⟩
end
end Bf
namespace Bf
open PySem PySem.Spec PyProof.Rows L2 LamX NdefX
theorem op_mulE {X : Cx} : OpR X (binaryOp .Mult) (fun x y H Q => ∃ i j k : Int, x = .int i ∧ y = .int j ∧ (-(2 ^ 64) < j ∧ j < 2 ^ 64) ∧ i * j = k ∧ Q (.int k) H) := by
  intro pins s σ H x y v u Q I rx ry h
  obtain ⟨i, j, k, rfl, rfl, hc, rfl, q⟩ := h
  exact op_mul pins s σ H _ _ v u Q I rx ry ⟨i, j, rfl, rfl, .inr ⟨by omega, by omega⟩, q⟩
section
variable {P : Program} {w : World} {K : PySem.W.Frag} {mg : Str → Option Value} {base : Heap} {f fRai fInv fVa fWr fTg fVs : Addr} {fd fdRai fdInv fdVa fdWr fdTg fdVs : FuncData} {k : Nat}
/-! ### through -/
theorem scTg : FnScope ["p", "pairs", "row", "zeros", "x", "wanted", "times", "number", "more"] ["p", "pairs"] (defScope sTg) := ⟨rfl, rfl, rfl, by decide +kernel, rfl, by decide +kernel, by decide +kernel⟩
def spTg (K : PySem.W.Frag) : Sp := fun vs H Q _ => ∃ (p : Nat) (a : Addr) (us : List V) (ps : List (Nat × Nat)), vs = [.int p, .ref a] ∧ IsP p ∧ p ≤ 1000000000 ∧ ps.length ≤ 60 ∧ (∀ xv ∈ ps, xv.2 < p) ∧ ps.Pairwise (fun (a b : Nat × Nat) => ¬ (p : Int) ∣ (b.1 : Int) - (a.1 : Int)) ∧ H a = some (.tup us) ∧ PrS H us ps ∧
  ∀ H' q row zs, Same H H' → H' q = some (.tup (nv row)) → Thr p ps row zs → Q (.ref q) H'
theorem ok_tg (F : Fun K "through" "through" sTg f fd) (GVa : FnOk P w K mg base CX0 1 fVa fdVa ["p", "row", "x"] (spVa K)) (kVa : PySem.W.keepIn K (.ref fVa) = true) (bVa : Binds K fdVa ["p", "row", "x"] []) (gVa : mg "value" = some (.ref fVa))
    (GInv : FnOk P w K mg base CX0 2 fInv fdInv ["p", "n"] spInv) (kInv : PySem.W.keepIn K (.ref fInv) = true) (bInv : Binds K fdInv ["p", "n"] []) (gInv : mg "inverse" = some (.ref fInv))
    (GWr : FnOk P w K mg base CX0 1 fWr fdWr ["p", "row", "x"] (spWr K)) (kWr : PySem.W.keepIn K (.ref fWr) = true) (bWr : Binds K fdWr ["p", "row", "x"] []) (gWr : mg "with_root" = some (.ref fWr)) (mz : mg "zip" = none) (mt : mg "tuple" = none) :
    FnOk P w K mg base CX0 3 f fd ["p", "pairs"] (spTg K) := by
  refine F.ok scTg (fun vs H Q E h => ?_) (fun cdv A outer s H vs Q E hr h => ?_)
  · obtain ⟨a, b, c, d, rfl, _⟩ := h
    rfl
  · obtain ⟨p, a, us, ps, rfl, hP, hp9, hps, hv, hdis, hS, hpr, fin⟩ := h
    have hp := hP.two
    have hp0 : 0 < p := by omega
    refine ⟨_, pss_cons (ps_set (i := 2) scTg.nd rfl (.inl rfl) (pe_tup pa_nil))
      (pss_cons (ps_set (i := 3) scTg.nd rfl (.inl rfl) (pe_tup (pa_cons pe_int pa_nil)))
      (pss_cons (ps_for PassesOwn.never rfl (pi_tup (pv 1)) (pg_tup (by rfl) (pgs_cons (pg_name (i := 4) scTg.nd rfl (.inl rfl)) (pgs_cons (pg_name (i := 5) scTg.nd rfl (.inl rfl)) pgs_nil)))
        (pss_cons (ps_set (i := 6) scTg.nd rfl (.inr rfl) (pe_op op_mulE (pe_op op_sub (pv 5) (pe_call GVa (hr.mono (by decide)) (by rfl) gVa kVa bVa .nil pass0 (pa_cons (pv 0) (pa_cons (pv 2) (pa_cons (pv 4) pa_nil))))) (pe_call GInv (hr.mono (by decide)) (by rfl) gInv kInv bInv .nil pass0 (pa_cons (pv 0) (pa_cons (pe_call GVa (hr.mono (by decide)) (by rfl) gVa kVa bVa .nil pass0 (pa_cons (pv 0) (pa_cons (pv 3) (pa_cons (pv 4) pa_nil)))) pa_nil)))))
        (pss_cons (ps_set (i := 2) scTg.nd rfl (.inl rfl) (pe_callTy call_tuple_of (by rfl) mt (by decide +kernel) (pa_cons (pe_lc (own := [("number", 7), ("more", 8)]) (g := gTup K 2 (gCons (gName 7) (gCons (gName 8) gNil))) (by rfl) scTg.nd (RZ.pi_zipA (by rfl) mz (pa_cons (pe_op op_catA (pv 2) (pe_tup (pa_cons pe_int pa_nil))) (pa_cons (pv 3) pa_nil)))
          (blkOk_by (own := [("number", 7), ("more", 8)]) (N := ["p", "pairs", "row", "zeros", "x", "wanted", "times", "number", "more"]) (sc := defScope sTg) (by decide +kernel)) (fun _ _ _ _ _ => pg_tup (by rfl) (pgs_cons (pg_name (i := 7) scTg.nd rfl (Or.inl rfl)) (pgs_cons (pg_name (i := 8) scTg.nd rfl (Or.inl rfl)) pgs_nil)))
          (fun _ _ _ _ _ => pts_nil) (fun _ _ _ _ _ => pe_op op_mod (pe_op op_add (pv 7) (pe_op op_mul (pv 6) (pv 8))) (pv 0))) pa_nil)))
        (pss_one (ps_set (i := 3) scTg.nd rfl (.inl rfl) (pe_call GWr (hr.mono (by decide)) (by rfl) gWr kWr bWr .nil pass0 (pa_cons (pv 0) (pa_cons (pv 3) (pa_cons (pv 4) pa_nil)))))))))
      (pss_one (ps_ret (pv 2))))), ?_⟩
    refine ⟨(by show 0 ≤ sizeLine; decide), fun r0 n0 => ⟨(by show 1 ≤ sizeLine; decide), fun z0 m0 => ?_⟩⟩
    have s0 : Same H (upd (upd H r0 (.tup [])) z0 (.tup [V.int 1])) := same_new (same_new (Same.refl H) n0) m0
    have er0 : (upd (upd H r0 (.tup [])) z0 (.tup [V.int 1])) r0 = some (.tup (nv [])) := by rw [upd_ne (ne_of_none upd_same m0), upd_same]; rfl
    have ez0 : (upd (upd H r0 (.tup [])) z0 (.tup [V.int 1])) z0 = some (.tup (nv [1])) := upd_same
    refine ⟨.ref a, rfl, a, rfl, ⟨_, .inl (.inl (s0 _ _ hS))⟩, for_tup (xs := us) (fun i σ H' => ∃ rw rz y4 y5 y6 y7 y8 row zs, σ = [some (.int p), some (.ref a), some (.ref rw), some (.ref rz), y4, y5, y6, y7, y8] ∧ Same H H' ∧ H' rw = some (.tup (nv row)) ∧ H' rz = some (.tup (nv zs)) ∧ Thr p (ps.take i) row zs)
      ⟨_, _, _, _, _, _, _, _, _, rfl, s0, er0, ez0, thr_nil hP⟩ (fun i σ H' _ z => by obtain ⟨_, _, _, _, _, _, _, _, _, _, z1, _⟩ := z; exact .inl (.inl (z1 _ _ hS))) ?_ ?_⟩
    · rintro i u σ H1 hu ⟨rw, rz, y4, y5, y6, y7, y8, row, zs, rfl, s1, erw, erz, th⟩
      have hi : i < ps.length := by rw [← hpr.1]; exact (List.getElem?_eq_some_iff.mp hu).1
      obtain ⟨x, v, exv⟩ : ∃ x v, ps[i]? = some (x, v) := ⟨_, _, List.getElem?_eq_getElem hi⟩
      obtain ⟨r, hr1, hr2⟩ := hpr.2 i _ exv
      obtain rfl : u = .ref r := Option.some.inj (hu.symm.trans hr1)
      have hr3 := s1 _ _ hr2
      have htk : ps.take (i + 1) = ps.take i ++ [(x, v)] := by rw [List.take_add_one, exv]; rfl
      have hnew : ∀ xv ∈ ps.take i, ¬ (p : Int) ∣ (x : Int) - xv.1 := fun xv hxv => by
        have := List.Pairwise.sublist (List.take_sublist (i + 1) ps) hdis
        rw [htk] at this
        exact (List.pairwise_append.mp this).2.2 xv hxv (x, v) List.mem_cons_self
      have hvp : v < p := hv (x, v) (List.mem_of_getElem? exv)
      obtain ⟨hz, th2⟩ := thr_next (v := v) hP th hnew
      have hrl : row.length ≤ 60 := by rw [th.len, List.length_take]; omega
      have hzl : zs.length ≤ 61 := by rw [th.lenz, List.length_take]; omega
      have big : ∀ n : Nat, n < p → n < 2 ^ 61 := fun n hn => by omega
      have hR : ev row x % p < p := Nat.mod_lt _ hp0
      have hI : (ev zs x % p) ^ (p - 2) % p < p := Nat.mod_lt _ hp0
      obtain ⟨t, et⟩ : ∃ t : Int, ((v : Int) - ((ev row x % p : Nat) : Int)) * (((ev zs x % p) ^ (p - 2) % p : Nat) : Int) = t := ⟨_, rfl⟩
      refine ⟨r, _, rfl, .inl (.inl hr3), rfl, _, _, rfl, _, _, rfl, rfl, ?_⟩
      refine ⟨_, rfl, .int p, rfl, .ref rw, rfl, .int (x : Nat), rfl, p, x, rw, row, rfl, hp0, hp9, fun n hn => big n (th.lt n hn), .inl (.inl erw), _, _, rfl, rfl, .int p, rfl, .int p, rfl, .ref rz, rfl, .int (x : Nat), rfl, p, x, rz, zs, rfl, hp0, hp9, fun n hn => big n (th.ltz n hn), .inl (.inl erz), p, ev zs x % p, rfl, hp, hp9, hz, _, _, t, rfl, rfl, ⟨by omega, by omega⟩, et, ?_⟩
      rw [et] at th2
      refine ⟨.ref rw, rfl, (by show 1 ≤ sizeLine; decide), fun z2 m2 => ?_⟩
      have s2 : Same H1 (upd H1 z2 (.tup [V.int 0])) := same_new (Same.refl H1) m2
      refine cat_gen (.inl (.inl (s2 _ _ erw))) (.inl (.inl upd_same)) (by rw [nv_len]; exact Nat.le_of_lt (small1000 (by show row.length + 1 ≤ 1000; omega))) fun l1 H3 s3 e3 => ?_
      have s13 := s2.trans s3
      have e3' : SqT K H3 l1 (nv (row ++ [0])) := by
        have : nv (row ++ [0]) = nv row ++ [V.int 0] := by simp [nv]
        rw [this]
        exact e3
      have erz3 := s13 _ _ erz
      have hlen : (row ++ [0]).length = zs.length := by rw [List.length_append, th.len, th.lenz]; rfl
      refine ⟨.ref rz, rfl, l1, rz, _, _, rfl, .inr ⟨e3', .inl (.inl erz3), fun D nD => lc_it (walk_zipT (n := zs.length) (xs := nv (row ++ [0])) (ys := nv zs) (by rw [nv_len, nv_len]; omega)) (fun i H' => Same H3 H' ∧ H' D = some (.lst (nv (cmb p 1 t ((row ++ [0]).take i) (zs.take i))))) ⟨same_new (Same.refl H3) nD, upd_same⟩ ?_ ?_ ?_⟩⟩
      · rintro i' H' _ ⟨xx, _⟩
        exact ⟨sameT xx e3', .inl (.inl (xx _ _ erz3))⟩
      · rintro i' v' HD HE hi' ⟨xD, eD⟩ ⟨Tp, vx, vy, rfl, nT, rfl, ex, ey⟩
        obtain ⟨h1, hh1, rfl⟩ := nv_get' ex
        obtain ⟨n1, hn1, rfl⟩ := nv_get' ey
        have xE : Same HD (upd HD Tp (.tup [V.int (h1 : Nat), V.int (n1 : Nat)])) := same_new (Same.refl HD) nT
        refine ⟨Tp, _, rfl, .inl (.inl upd_same), rfl, _, _, rfl, _, _, rfl, rfl, rfl, yes ?_⟩
        have eD2 := xE _ _ eD
        have hn1p : n1 < p := th.ltz n1 (List.mem_of_getElem? hn1)
        refine ⟨_, rfl, .int t, rfl, _, rfl, _, _, rfl, rfl, .inr ⟨by omega, by omega⟩, _, _, rfl, rfl, .int p, rfl, _, _, rfl, rfl, (show (0 : Int) < (p : Int) by omega), _, eD2, ?_, fun b' o z => ?_, ?_⟩
        · rw [nv_len]
          unfold cmb
          rw [List.length_map, List.length_zip, List.length_take, List.length_take]
          exact small1000 (by omega)
        · rw [upd_ne (ne_of_none z nD)]
          exact xE _ _ (xD b' o z)
        · rw [upd_same, cmb_take hh1 hn1]
          have em : ((mdN p (1 * (h1 : Int) + t * (n1 : Int)) : Nat) : Int) = ((h1 : Int) + t * (n1 : Int)) % (p : Int) := by
            rw [mdN_is hp0, Int.one_mul]
          unfold nv
          rw [List.map_append]
          show some (HO.lst (_ ++ [V.int (((h1 : Int) + t * (n1 : Int)) % (p : Int))])) = some (HO.lst (_ ++ [V.int ((mdN p (1 * (h1 : Int) + t * (n1 : Int)) : Nat) : Int)]))
          rw [em]
      · rintro HD ⟨xD, eD⟩
        have e9 : cmb p 1 t ((row ++ [0]).take zs.length) (zs.take zs.length) = tgF p row zs t := by rw [List.take_length, ← hlen, List.take_length]; rfl
        rw [e9] at eD
        refine ⟨D, _, rfl, .inl ⟨.inl (.inl eD), fun q nq => ?_⟩⟩
        have s5 : Same H1 (upd HD q (.tup (nv (tgF p row zs t)))) := same_new (s13.trans xD) nq
        have eq5 : (upd HD q (.tup (nv (tgF p row zs t)))) q = some (.tup (nv (tgF p row zs t))) := upd_same
        generalize upd HD q (.tup (nv (tgF p row zs t))) = H5 at *
        refine ⟨.int p, rfl, .ref rz, rfl, .int (x : Nat), rfl, p, x, rz, zs, rfl, hp, hp9, th.ltz, by omega, s5 _ _ erz, fun H6 q6 s6 e6 => ?_⟩
        refine ⟨_, _, _, _, _, _, _, _, _, rfl, (s1.trans s5).trans s6, s6 _ _ eq5, e6, ?_⟩
        rw [htk]
        exact th2
    · rintro σ H1 ⟨rw, rz, y4, y5, y6, y7, y8, row, zs, rfl, s1, erw, erz, th⟩
      rw [hpr.1, List.take_length] at th
      exact ⟨_, rfl, fin H1 rw row zs s1 erw th⟩
/-! ### row_through -/
theorem scRt : FnScope ["p", "k", "pairs", "row", "x", "wanted"] ["p", "k", "pairs"] (defScope sRt) := ⟨rfl, rfl, rfl, by decide +kernel, rfl, by decide +kernel, by decide +kernel⟩
def valsAt (p : Nat) (line xs : List Nat) : List (Nat × Nat) := xs.map fun x => (x, ev line x % p)
def spRt (K : PySem.W.Frag) : Sp := fun vs H Q _ => ∃ (p k : Nat) (a : Addr) (us : List V) (line xs : List Nat), vs = [.int p, .int k, .ref a] ∧ IsP p ∧ p ≤ 1000000000 ∧ line.length = k ∧ k ≤ 60 ∧ k ≤ xs.length ∧ xs.length ≤ 100 ∧ (∀ n ∈ line, n < p) ∧ xs.Pairwise (fun (a b : Nat) => ¬ (p : Int) ∣ (b : Int) - (a : Int)) ∧ H a = some (.tup us) ∧ PrS H us (valsAt p line xs) ∧
  ∀ H' q, Same H H' → H' q = some (.tup (nv line)) → Q (.ref q) H'
theorem ok_rt (F : Fun K "row_through" "row_through" sRt f fd) (GVa : FnOk P w K mg base CX0 1 fVa fdVa ["p", "row", "x"] (spVa K)) (kVa : PySem.W.keepIn K (.ref fVa) = true) (bVa : Binds K fdVa ["p", "row", "x"] []) (gVa : mg "value" = some (.ref fVa))
    (GTg : FnOk P w K mg base CX0 3 fTg fdTg ["p", "pairs"] (spTg K)) (kTg : PySem.W.keepIn K (.ref fTg) = true) (bTg : Binds K fdTg ["p", "pairs"] []) (gTg : mg "through" = some (.ref fTg)) (ml : mg "len" = none) (ma : mg "all" = none) :
    FnOk P w K mg base CX0 4 f fd ["p", "k", "pairs"] (spRt K) := by
  refine F.ok scRt (fun vs H Q E h => ?_) (fun cdv A outer s H vs Q E hr h => ?_)
  · obtain ⟨a, b, c, d, e, g, rfl, _⟩ := h
    rfl
  · obtain ⟨p, k, a, us, line, xs, rfl, hP, hp9, hl, hk6, hkx, hx1, hlt, hdis, hS, hpr, fin⟩ := h
    have hp := hP.two
    have hp0 : 0 < p := by omega
    refine ⟨_, pss_cons (ps_if (pt_cmpR op_lt (pe_callB call_len_seq (by rfl) ml PySem.boot_len (pa_cons (pv 2) pa_nil)) (pv 1) (nomark _)) (pss_one ps_dead) pss_nil)
      (pss_cons (ps_set (i := 3) scRt.nd rfl (.inr rfl) (pe_call GTg (hr.mono (by decide)) (by rfl) gTg kTg bTg .nil pass0 (pa_cons (pv 0) (pa_cons (pe_slice sl_tupA (pv 2) po_none (po_some (pv 1))) pa_nil))))
      (pss_cons (ps_if (pt_val (pe_callB (cr_all rfl) (by rfl) ma (by decide +kernel) (pa_cons (pe_lc (own := [("x", 4), ("wanted", 5)]) (g := gTup K 2 (gCons (gName 4) (gCons (gName 5) gNil))) (by rfl) scRt.nd (pi_tup (pe_slice sl_tupA (pv 2) (po_some (pv 1)) po_none))
        (blkOk_by (own := [("x", 4), ("wanted", 5)]) (N := ["p", "k", "pairs", "row", "x", "wanted"]) (sc := defScope sRt) (by decide +kernel)) (fun _ _ _ _ _ => pg_tup (by rfl) (pgs_cons (pg_name (i := 4) scRt.nd rfl (Or.inl rfl)) (pgs_cons (pg_name (i := 5) scRt.nd rfl (Or.inl rfl)) pgs_nil)))
        (fun _ _ _ _ _ => pts_nil) (fun _ _ _ _ _ => pe_cmpR op_eq (pe_call GVa (hr.mono (by decide)) (by rfl) gVa kVa bVa .nil pass0 (pa_cons (pv 0) (pa_cons (pv 3) (pa_cons (pv 4) pa_nil)))) (pv 5) (nomark _))) pa_nil))) (pss_one (ps_ret (pv 3))) pss_nil)
      (pss_one (ps_ret pe_non)))), ?_⟩
    have hul : us.length = xs.length := by rw [hpr.1]; unfold valsAt; rw [List.length_map]
    refine ⟨.ref a, rfl, a, _, rfl, .inr (.inl (.inl hS)), .int k, rfl, _, _, rfl, rfl, _, rfl, ?_⟩
    rw [decide_eq_false (show ¬ ((us.length : Int) < (k : Int)) by omega)]
    refine iteF ⟨.int p, rfl, .ref a, rfl, .int k, rfl, _, rfl, slT hS cut_take fun H1 a1 s1 e1 => ?_⟩
    have hpr1 := (hpr.same s1).take k
    have hvt : (valsAt p line xs).take k = valsAt p line (xs.take k) := by unfold valsAt; rw [List.map_take]
    rw [hvt] at hpr1
    have hdis1 : (xs.take k).Pairwise (fun (a b : Nat) => ¬ (p : Int) ∣ (b : Int) - (a : Int)) := List.Pairwise.sublist (List.take_sublist k xs) hdis
    have hxl : (xs.take k).length = k := by rw [List.length_take]; omega
    refine ⟨p, a1, _, valsAt p line (xs.take k), rfl, hP, hp9, by unfold valsAt; rw [List.length_map, hxl]; exact hk6, fun xv hxv => ?_, ?_, e1, hpr1, fun H2 q2 row zs s2 e2 th => ?_⟩
    · unfold valsAt at hxv
      obtain ⟨x, _, rfl⟩ := List.mem_map.mp hxv
      exact Nat.mod_lt _ hp0
    · unfold valsAt
      rw [List.pairwise_map]
      exact hdis1
    have erow : row = line := by
      have hrl := th.len
      unfold valsAt at hrl
      rw [List.length_map] at hrl
      refine row_one hP hrl (by rw [hl, hxl]) th.lt hlt hdis1 fun x hx => ?_
      have h1 := th.at_ (x, ev line x % p) (List.mem_map.mpr ⟨x, hx, rfl⟩)
      have h2 := mod_cong (p := p) (a := ev line x)
      rw [ev_cz] at h2
      exact dvd_tr h1 h2
    subst erow
    have sA := s1.trans s2
    refine ⟨.ref a, rfl, .int k, rfl, (k : Int), rfl, ?_⟩
    dsimp only [tNoPart]
    refine slT (sA _ _ hS) (cut_drop (n := k)) fun H3 a3 s3 e3 => ?_
    have sB := sA.trans s3
    have e23 := s3 _ _ e2
    have hpr3 := (hpr.same sB).drop k
    refine ⟨a3, rfl, ⟨_, .inl (.inl e3)⟩, fun G nG => lc_tup (xs := us.drop k) (fun r H' => Same H3 H' ∧ H' G = some (.lst ((List.replicate r true).map V.bl))) ⟨same_new (Same.refl H3) nG, upd_same⟩ (fun r H' _ z => .inl (.inl (z.1 _ _ e3))) ?_ ?_⟩
    · rintro r u H4 hu ⟨s4, eG⟩
      have hri : r < (us.drop k).length := (List.getElem?_eq_some_iff.mp hu).1
      have hri2 : r < ((valsAt p row xs).drop k).length := by rw [← hpr3.1]; exact hri
      obtain ⟨x, v, exv⟩ : ∃ x v, ((valsAt p row xs).drop k)[r]? = some (x, v) := ⟨_, _, List.getElem?_eq_getElem hri2⟩
      obtain ⟨rr, hr1, hr2⟩ := hpr3.2 r _ exv
      obtain rfl : u = .ref rr := Option.some.inj (hu.symm.trans hr1)
      have hvx : v = ev row x % p := by
        have hm := List.mem_of_mem_drop (List.mem_of_getElem? exv)
        unfold valsAt at hm
        obtain ⟨x', _, e'⟩ := List.mem_map.mp hm
        have h1 : x' = x := congrArg Prod.fst e'
        have h2 : ev row x' % p = v := congrArg Prod.snd e'
        rw [← h2, h1]
      have big : ∀ n : Nat, n ∈ row → n < 2 ^ 61 := fun n hn => by have := hlt n hn; omega
      refine ⟨rr, _, rfl, .inl (.inl (s4 _ _ hr2)), rfl, _, _, rfl, _, _, rfl, rfl, rfl, yes ?_⟩
      refine ⟨.int p, rfl, .ref q2, rfl, .int (x : Nat), rfl, p, x, q2, row, rfl, hp0, hp9, big, .inl (.inl (s4 _ _ e23)), _, rfl, rfl, _, eG, ?_, fun b o z => ?_, ?_⟩
      · rw [List.length_map, List.length_replicate]
        rw [List.length_drop] at hri
        exact small1000 (by omega)
      · rw [upd_ne (ne_of_none z nG)]
        exact s4 b o z
      · rw [upd_same, List.replicate_succ', List.map_append]
        show some (HO.lst (_ ++ [V.bl (decide (V.int ((ev row x % p : Nat) : Int) = V.int (v : Nat)))])) = _
        rw [hvx, decide_eq_true rfl]
        rfl
    · rintro H4 ⟨s4, eG⟩
      refine ⟨G, _, rfl, .inl (.inl eG), _, rfl, ?_⟩
      have hall : ∀ r, (List.replicate r true).all id = true := fun r => by
        induction r with
        | zero => rfl
        | succ r ih => rw [List.replicate_succ]; exact ih
      rw [hall]
      exact iteT ⟨_, rfl, fin H4 q2 (sB.trans s4) (s4 _ _ e23)⟩
end
end Bf
namespace Bf
open PySem PySem.Spec PyProof.Rows L2
open AutoSeq1 (wpAny_loadPart')
/-! ### enumerate(tuple) -/
theorem new_enumT (tu : Addr) (its : Array Value) (c : Nat) (dd : Option Addr) (sls : Array (Option Value)) :
    Meets (Builtin.«enumerate.__new__» ⟨[.type "enumerate", .ref tu], []⟩) (fun _ R s => s.heap.get? tu = some { cls := .type "tuple", dict := dd, data := .seq its c, slots := sls } ∧
      R (.ok (.ret (.ref (s.heap.push { cls := .type "tuple_iterator", data := .fields #[.ref tu, .int 0 0] }).objs.size)))
        { s with heap := (s.heap.push { cls := .type "tuple_iterator", data := .fields #[.ref tu, .int 0 0] }).push { cls := .type "enumerate", data := .fields #[.none, .bool false, .ref s.heap.objs.size, rawInt 0, .none, .none] } }) := by
  refine .of_wp fun prog w A R s hh => ?_
  obtain ⟨hp, g, d, tk, os⟩ := s
  obtain ⟨ht, hh⟩ := hh
  have subE := sub_enumerate
  have hT : Heap.IsTuple (Shared.heap ⟨hp, g, d, tk, os⟩) tu its := ⟨_, ht, rfl, c, rfl⟩
  wp_walk using wpAny_loadPart' ht
  refine wpAny_stack_any fun st => wpAny_pure ?_
  split
  · rename_i cc _ _ _ _ _
    cases (cc == Value.type "enumerate")
    · wp_walk using wpAny_loadPart' ht, wpAny_pyIter_tuple hT
      exact ⟨_, rfl, hh⟩
    · wp_walk using wpAny_loadPart' ht, wpAny_pyIter_tuple hT
      exact ⟨_, rfl, hh⟩
  · wp_walk using wpAny_loadPart' ht, wpAny_pyIter_tuple hT
    exact ⟨_, rfl, hh⟩
theorem call_enumT {prog : Program} {w : World} {A : Around} {E : Value → Shared → Prop} {s : Shared} {tu : Addr} {its : Array Value} {Q : Value → Shared → Prop} (hT : s.heap.IsTuple tu its)
    (go : ∀ h', IsEnum h' (s.heap.objs.size + 1) s.heap.objs.size 0 .none → h'.IsTupleIter s.heap.objs.size tu 0 → (∀ b o, s.heap.get? b = some o → h'.get? b = some o) → Q (.ref (s.heap.objs.size + 1)) { s with heap := h' }) : wpAny (model prog w) A (call (.type "enumerate") [.ref tu]) Q E s := by
  obtain ⟨⟨cl, dd, dt, sls⟩, ht, hc, c, hd⟩ := hT
  have hc : cl = .type "tuple" := hc
  have hd : dt = .seq its c := hd
  subst hc hd
  refine callType_new F.called_enumerate (by decide) (F.typeCall_enumerate_1 _) (F.newCall_enumerate_1 _) (fun ob => F.args_object_init_2 ob _) F.entry_enumerate_new (new_enumT tu its c dd sls) ⟨ht, ?_⟩
  generalize hh1 : s.heap.push { cls := .type "tuple_iterator", data := .fields #[.ref tu, .int 0 0] } = h1
  have z1 : h1.objs.size = s.heap.objs.size + 1 := by rw [← hh1]; exact Heap.size_push ..
  have g1 : h1.IsTupleIter s.heap.objs.size tu 0 := by rw [← hh1]; exact ⟨_, Heap.get?_push_size _ rfl, rfl, rfl⟩
  have k1 : ∀ b o, s.heap.get? b = some o → h1.get? b = some o := fun b o e => by rw [← hh1]; exact Heap.get?_push_of_some _ e
  show _ ∧ _
  rw [z1]
  have en : IsEnum (h1.push { cls := .type "enumerate", data := .fields #[.none, .bool false, .ref s.heap.objs.size, rawInt 0, .none, .none] }) (s.heap.objs.size + 1) s.heap.objs.size 0 .none := by
    have q := Heap.get?_push_size h1 (o := { cls := .type "enumerate", data := .fields #[.none, .bool false, .ref s.heap.objs.size, rawInt 0, .none, .none] }) rfl
    rw [z1] at q
    exact q
  refine ⟨⟨_, en, rfl⟩, go _ en (g1.at fun o e => Heap.get?_push_of_some _ e) fun b o e => Heap.get?_push_of_some _ (k1 b o e)⟩
/-- the tuple at a, each item in a new pair -/
def IteT (K : PySem.W.Frag) (a : Addr) : It where
  go := fun i H => ∃ (us : List V) (u : V), SqT K H a us ∧ us[i]? = some u
  yld := fun i H v H' => ∃ T u, v = .ref T ∧ H T = none ∧ H' = upd H T (.tup [.int (i : Nat), u]) ∧ ∀ us, SqT K H a us → us[i]? = some u
  stop := fun i H => ∃ us : List V, SqT K H a us ∧ us.length = i
theorem turn_enT {P : Program} {w : World} {K : PySem.W.Frag} {elts : List Expr} {kk : Nat} {tpos : Pos} (a e it : Addr) :
    Turn P w K (.Tuple elts kk tpos) (IteT K a) [e, it] e (fun i h => (∃ old, IsEnum h e it ((i : Nat) : Int) old) ∧ h.IsTupleIter it a i ∧ e ≠ it ∧ e ≠ a ∧ a ≠ it) where
  mem := by simp
  obj := by
    rintro i h ⟨⟨old, he⟩, ⟨o, ho, hc, hd⟩, _⟩ b hb
    rcases (show b = e ∨ b = it by simpa using hb) with rfl | rfl
    · exact ⟨_, he, fun v q => nomatch q⟩
    · exact ⟨o, ho, fun v q => by rw [hd] at q; cases q⟩
  keep := by
    rintro i h h' ⟨⟨old, he⟩, hi, hne⟩ k
    exact ⟨⟨old, k e (by simp) _ he⟩, hi.at fun o q => k it (by simp) o q, hne⟩
  item := by
    intro X hP hw hK hc i pins s σ H E I hf st hg
    subst hP hw hK
    obtain ⟨⟨old, he⟩, hit, n1, n2, n3⟩ := st
    obtain ⟨us, u, hq, hu⟩ := hg
    obtain ⟨its, rv, p, hz⟩ := I.tuple hq
    obtain ⟨val, hval, ru⟩ := rv.get hu
    have ltE : e < s.heap.objs.size := Heap.lt_size he
    have ltI : it < s.heap.objs.size := by obtain ⟨_, q, _⟩ := hit; exact Heap.lt_size q
    have hin : i < its.toArray.size := by
      have := (List.getElem?_eq_some_iff.mp hval).1
      simpa using this
    have pT : s.heap.IsTuple a its.toArray := p
    refine wpAny_pyNext_enum_itemD (Draws.tuple (A := X.A.in1) (I.ok.hd hc) it a n3 its.toArray) he ⟨hit, pT⟩ hin n1 (by simp [n1, n2]) fun x h' tk hx ho hst hT hsz hk => ?_
    have ex : x = val := by
      have h1 : its.toArray[i]? = some x := hx
      have h2 : its[i]? = some x := by simpa using h1
      exact Option.some.inj (h2.symm.trans hval)
    subst ex
    refine ⟨_, rfl, wpAny_letOwnedTupleGo_enum (s := { s with heap := h', toks := tk + 1 }) ho fun h'' he' sb => ?_⟩
    have hT2 : h''.get? s.heap.objs.size = some { cls := .type "tuple", data := .seq #[.int i tk, x] } := (sb.2 _ (Nat.ne_of_gt ltE)).trans hT
    have fresh : ObjOk X.prog X.w (upd H s.heap.objs.size (.tup [.int (i : Nat), u])) h'' s.heap.objs.size (.tup [.int (i : Nat), u]) := ⟨by show 2 ≤ sizeLine; decide, [.int i tk, x], .cons ⟨_, rfl⟩ (.cons ru .nil), ⟨_, hT2, rfl, _, rfl⟩⟩
    have I1 : Inv X pins σ (upd H s.heap.objs.size (.tup [.int (i : Nat), u])) { s with heap := h'', toks := tk + 1 } := by
      refine I.turnedNew (ch := [e, it]) (fun b ob hb q => ?_) hf (Nat.le_refl _) fresh
      have hb1 : b ≠ e := fun z => hb (by simp [z])
      have hb2 : b ≠ it := fun z => hb (by simp [z])
      exact (sb.2 b hb1).trans (hk b ob hb1 hb2 q)
    refine ⟨.ref s.heap.objs.size, _, I1, rfl, ⟨_, u, rfl, I.hok.fresh (Nat.le_refl _), rfl, fun ys hy => by rw [I.tuple_inj hy hq]; exact hu⟩, ⟨⟨x, ?_⟩, hst.1.at fun o q => (sb.2 it (Ne.symm n1)).trans q, n1, n2, n3⟩, fun b hb => ?_⟩
    · rw [show ((i + 1 : Nat) : Int) = (i : Int) + 1 by omega]
      exact he'
    · have lb : b < s.heap.objs.size := by
        rcases (show b = e ∨ b = it by simpa using hb) with rfl | rfl
        · exact ltE
        · exact ltI
      rw [upd_ne (Nat.ne_of_lt lb)]
      exact (hf b hb).1
  done := by
    intro X hP hw hK hc i pins s σ H E I hf st hg
    subst hP hw hK
    obtain ⟨⟨old, he⟩, hit, n1, n2, n3⟩ := st
    obtain ⟨us, hq, hu⟩ := hg
    obtain ⟨its, rv, p, hz⟩ := I.tuple hq
    have hl := rv.length
    obtain ⟨f0, f1, f2, f3, f4, f5⟩ := hf it (by simp)
    have pT : s.heap.IsTuple a its.toArray := p
    have ei : its.toArray.size = i := by simp; omega
    refine wpAny_pyNext_enum_endD (Draws.tuple (A := X.A.in1) (I.ok.hd hc) it a n3 its.toArray) he ⟨by rw [ei]; exact hit, pT⟩ fun h' eb => ⟨rfl, ?_⟩
    exact I.turned (t' := s.toks) (fun b o hb q => eb b o hb q) f0 f1 f3 f4 f5
  self := by
    rintro A i s Q E ⟨⟨_, he⟩, _⟩ h
    exact wpAny_pyIter_enum he h
def iEnT (K : PySem.W.Frag) (ta : TA) : TI := fun σ H R => ta σ H fun vs H1 => ∃ a us, vs = [.ref a] ∧ SqT K H1 a us ∧ R (IteT K a) H1
theorem pi_enT {X : Cx} {e : Expr} {ta : TA} {p pos tpos : Pos} {elts : List Expr} {kk : Nat} (hg : Gl X "enumerate") (hm : X.mg "enumerate" = none) (ha : PA X [e] ta) (hs : starEach [e] X.env = [(false, eval e X.env)] := by rfl) : PI X (.Tuple elts kk tpos) (.Call (.Name "enumerate" p) [e] [] pos) (iEnT X.K ta) := by
  constructor
  intro pins s σ H R I h
  refine Call_ (ld_blt I hg hm boot_enumerate (PyProof.Rows.callWith_type1 (thn (ha.run pos pins s σ H _ I h) fun ws s1 ⟨vs, H1, I1, r1, q1⟩ => ?_) hs rfl))
  obtain ⟨a, us, ex, hq, q⟩ := q1
  subst ex
  match ws, r1 with
  | _, .cons r .nil =>
    cases r
    obtain ⟨its, rv, pp, hz⟩ := I1.tuple hq
    have pT : s1.heap.IsTuple a its.toArray := pp
    have la : a < s1.heap.objs.size := by obtain ⟨_, ho, _⟩ := pT; exact Heap.lt_size ho
    refine call_enumT pT fun h' en hit kp => wpAny_pyIter_enum en ?_
    have I2 : Inv X pins σ H1 { s1 with heap := h' } := I1.kept (t' := s1.toks) kp
    refine ⟨s1.heap.objs.size + 1, [s1.heap.objs.size + 1, s1.heap.objs.size], _, _, H1, rfl, I2, turn_enT a (s1.heap.objs.size + 1) s1.heap.objs.size, ⟨⟨.none, en⟩, hit, Nat.succ_ne_self _, Ne.symm (Nat.ne_of_lt (Nat.lt_succ_of_lt la)), Nat.ne_of_lt la⟩, fun b hb => ?_, q⟩
    have lb : s1.heap.objs.size ≤ b := by
      rcases (show b = s1.heap.objs.size + 1 ∨ b = s1.heap.objs.size by simpa using hb) with rfl | rfl
      · exact Nat.le_add_right _ _
      · exact Nat.le_refl _
    exact I1.fpOk lb (I1.hok.fresh lb)
theorem walk_enT {K : PySem.W.Frag} {a : Addr} {us : List V} : Walk (IteT K a) us.length (fun H => SqT K H a us) (YPair (fun i => some (.int (i : Nat))) (fun i => us[i]?)) := by
  refine ⟨fun i H hi q => ⟨us, us[i], q, List.getElem?_eq_getElem hi⟩, fun H q => ⟨us, q, rfl⟩, fun i H v H' _ q y => ?_⟩
  obtain ⟨T, u, h1, h2, h3, h4⟩ := y
  exact ⟨T, .int (i : Nat), u, h1, h2, h3, rfl, h4 us q⟩
end Bf
namespace Bf
open PySem PySem.Spec PyProof.Rows L2 LamX NdefX
theorem in_nvD (n : Nat) (os : List Nat) : inV (.int (n : Int)) (nv os) = decide (n ∈ os) := by
  induction os with
  | nil => rfl
  | cons o os ih =>
    unfold inV nv at ih ⊢
    rw [List.map_cons, List.any_cons, ih]
    show (((o : Int) == (n : Int)) || decide (n ∈ os)) = decide (n ∈ o :: os)
    by_cases z : o = n
    · subst z
      simp
    · have : ((o : Int) == (n : Int)) = false := beq_eq_false_iff_ne.mpr (by omega)
      rw [this, Bool.false_or]
      by_cases y : n ∈ os
      · rw [decide_eq_true y, decide_eq_true (List.mem_cons_of_mem o y)]
      · rw [decide_eq_false y, decide_eq_false (fun x => (List.mem_cons.mp x).elim (fun e => z e.symm) y)]
/-! ### a tuple walked -/
theorem wk_tup {K : PySem.W.Frag} {a : Addr} {us : List V} {H0 : Hp} {Body : V → Hp → (Hp → Prop) → Prop} {Qd : Hp → Prop} (Pv : Nat → Hp → Prop) (h0 : Pv 0 H0) (hl : ∀ i H, Pv i H → SqT K H a us) (hs : ∀ i x H, us[i]? = some x → Pv i H → Body x H (Pv (i + 1))) (hd : ∀ H, Pv us.length H → Qd H) :
    ∃ W : Nat → Nat → Hp → Prop, (∃ m, W 0 m H0) ∧ ∀ i m H, W i m H → ((Itt K a).stop i H ∧ Qd H) ∨ ((Itt K a).go i H ∧ ∃ Nx : Hp → Prop, (∀ H', Nx H' → ∃ m', m' < m ∧ W (i + 1) m' H') ∧ ∀ x H', (Itt K a).yld i H x H' → Body x H' Nx) := by
  refine ⟨fun i m H => i + m = us.length ∧ Pv i H, ⟨us.length, Nat.zero_add _, h0⟩, ?_⟩
  rintro i m H ⟨e, p⟩
  have q := hl i H p
  cases m with
  | zero =>
    have e2 : i = us.length := e
    exact .inl ⟨⟨us, q, Nat.le_of_eq e2.symm⟩, hd H (e2 ▸ p)⟩
  | succ m =>
    have hi : i < us.length := by omega
    refine .inr ⟨⟨us, us[i], q, List.getElem?_eq_getElem hi⟩, Pv (i + 1), fun H' p' => ⟨m, Nat.lt_succ_self m, by omega, p'⟩, ?_⟩
    rintro x H' ⟨rfl, hx⟩
    exact hs i x H' (hx us q) p
/-- rows -/
def RwS (H : Hp) (vs : List V) (ls : List (List Nat)) : Prop := vs.length = ls.length ∧ ∀ (i : Nat) (l : List Nat), ls[i]? = some l → ∃ r : Addr, vs[i]? = some (V.ref r) ∧ H r = some (.tup (nv l))
theorem RwS.same {H H' : Hp} {vs : List V} {ls : List (List Nat)} (h : RwS H vs ls) (s : Same H H') : RwS H' vs ls := ⟨h.1, fun i l e => let ⟨r, h1, h2⟩ := h.2 i l e; ⟨r, h1, s _ _ h2⟩⟩
theorem RwS.take {H : Hp} {vs : List V} {ls : List (List Nat)} (h : RwS H vs ls) (k : Nat) : RwS H (vs.take k) (ls.take k) := by
  refine ⟨by rw [List.length_take, List.length_take, h.1], fun i l e => ?_⟩
  rw [List.getElem?_take] at e
  by_cases c : i < k
  · rw [if_pos c] at e
    obtain ⟨r, h1, h2⟩ := h.2 i l e
    exact ⟨r, by rw [List.getElem?_take, if_pos c]; exact h1, h2⟩
  · rw [if_neg c] at e
    cases e
theorem RwS.drop {H : Hp} {vs : List V} {ls : List (List Nat)} (h : RwS H vs ls) (k : Nat) : RwS H (vs.drop k) (ls.drop k) := by
  refine ⟨by rw [List.length_drop, List.length_drop, h.1], fun i l e => ?_⟩
  rw [List.getElem?_drop] at e
  obtain ⟨r, h1, h2⟩ := h.2 (k + i) l e
  exact ⟨r, by rw [List.getElem?_drop]; exact h1, h2⟩
theorem RwS.app {H : Hp} {vs us : List V} {ls ms : List (List Nat)} (h : RwS H vs ls) (g : RwS H us ms) : RwS H (vs ++ us) (ls ++ ms) := by
  refine ⟨by rw [List.length_append, List.length_append, h.1, g.1], fun i l e => ?_⟩
  by_cases c : i < ls.length
  · rw [List.getElem?_append_left c] at e
    obtain ⟨r, h1, h2⟩ := h.2 i l e
    exact ⟨r, by rw [List.getElem?_append_left (by rw [h.1]; exact c)]; exact h1, h2⟩
  · rw [List.getElem?_append_right (by omega)] at e
    obtain ⟨r, h1, h2⟩ := g.2 (i - ls.length) l e
    exact ⟨r, by rw [List.getElem?_append_right (by rw [h.1]; omega), h.1]; exact h1, h2⟩
def lsF (p q : Nat) (ls : List (List Nat)) : List Nat := (ls.map fun l => vsL p l q).flatten
theorem lsF_len (p q : Nat) : ∀ ls : List (List Nat), (lsF p q ls).length = ls.length * q
  | [] => by simp [lsF]
  | l :: ls => by
    have ih := lsF_len p q ls
    unfold lsF at ih ⊢
    rw [List.map_cons, List.flatten_cons, List.length_append, ih, vsL_len, List.length_cons, Nat.succ_mul]
    omega
theorem lsF_app (p q : Nat) (ls ms : List (List Nat)) : lsF p q (ls ++ ms) = lsF p q ls ++ lsF p q ms := by
  unfold lsF
  rw [List.map_append, List.flatten_append]
theorem lsF_take {p q i : Nat} {ls : List (List Nat)} {l : List Nat} (h : ls[i]? = some l) : lsF p q (ls.take (i + 1)) = lsF p q (ls.take i) ++ vsL p l q := by
  rw [List.take_add_one, h, Option.toList_some, lsF_app]
  congr 1
  simp [lsF]
theorem lsF_lt {p q : Nat} {ls : List (List Nat)} (hp : 0 < p) : ∀ x ∈ lsF p q ls, x < p := fun x hx => by
  unfold lsF at hx
  obtain ⟨l, hl, hx⟩ := List.mem_flatten.mp hx
  obtain ⟨l', _, rfl⟩ := List.mem_map.mp hl
  exact vsL_lt hp x hx
section
variable {P : Program} {w : World} {K : PySem.W.Frag} {mg : Str → Option Value} {base : Heap} {f fVs fT : Addr} {fd fdVs fdT : FuncData} {k : Nat}
/-! ### letters -/
theorem scLe : FnScope ["p", "q", "rows", "row", "letter"] ["p", "q", "rows"] (defScope sLe) := ⟨rfl, rfl, rfl, by decide +kernel, rfl, by decide +kernel, by decide +kernel⟩
def spLe (K : PySem.W.Frag) : Sp := fun vs H Q _ => ∃ (p q : Nat) (a : Addr) (us : List V) (ls : List (List Nat)), vs = [.int p, .int q, .ref a] ∧ 0 < p ∧ p ≤ 1000000000 ∧ q ≤ 60 ∧ ls.length ≤ 10 ∧ (∀ l ∈ ls, ∀ n ∈ l, n < 2 ^ 61) ∧ SqT K H a us ∧ RwS H us ls ∧ ∀ H' r, Same H H' → H' r = some (.tup (nv (lsF p q ls))) → Q (.ref r) H'
theorem ok_le (F : Fun K "letters" "letters" sLe f fd) (GVs : FnOk P w K mg base CX0 2 fVs fdVs ["p", "row", "many"] (spVs K)) (kVs : PySem.W.keepIn K (.ref fVs) = true) (bVs : Binds K fdVs ["p", "row", "many"] []) (gVs : mg "values" = some (.ref fVs)) (mt : mg "tuple" = none) :
    FnOk P w K mg base CX0 3 f fd ["p", "q", "rows"] (spLe K) := by
  refine F.ok scLe (fun vs H Q E h => ?_) (fun cdv A outer s H vs Q E hr h => ?_)
  · obtain ⟨a, b, c, d, e, rfl, _⟩ := h
    rfl
  · obtain ⟨p, q, a, us, ls, rfl, hp, hp9, hq, hn, hlt, hS, hrw, fin⟩ := h
    refine ⟨_, pss_one (ps_ret (pe_callTy call_tuple_of (by rfl) mt (by decide +kernel) (pa_cons (pe_lc2 (own := [("row", 3), ("letter", 4)]) (vs1 := [4]) (g := gName 3) (g1 := gName 4) (wi1 := iTup K (tCall (spVs K) [] E0 (tCons (tVar 0) (tCons (tVar 3) (tCons (tVar 1) tNil))))) (by rfl) scLe.nd (pi_tup (pv 2))
        (blkOk_by (own := [("row", 3), ("letter", 4)]) (N := ["p", "q", "rows", "row", "letter"]) (sc := defScope sLe) (by decide +kernel)) (by decide) (fun _ _ _ _ _ => pg_name (i := 3) scLe.nd rfl (Or.inl rfl)) (fun _ _ _ _ _ => pts_nil)
        (fun _ _ _ _ _ => pi_tup (pe_call GVs (hr.mono (by decide)) (by rfl) gVs kVs bVs .nil pass0 (pa_cons (pv 0) (pa_cons (pv 3) (pa_cons (pv 1) pa_nil))))) (fun _ _ _ _ _ => pg_name (i := 4) scLe.nd rfl (Or.inl rfl)) (fun _ _ _ _ _ => pts_nil) (fun _ _ _ _ _ => pv 4)) pa_nil))), ?_⟩
    refine ⟨.ref a, rfl, a, rfl, ⟨_, hS⟩, fun D nD => wk_tup (us := us) (fun i H' => Same H H' ∧ H' D = some (.lst (nv (lsF p q (ls.take i))))) ⟨same_new (Same.refl H) nD, by rw [upd_same]; rfl⟩ (fun i H' z => sameT z.1 hS) ?_ ?_⟩
    · rintro i u H1 hu ⟨s1, eD⟩
      have hi : i < ls.length := by rw [← hrw.1]; exact (List.getElem?_eq_some_iff.mp hu).1
      have hl := List.getElem?_eq_getElem hi
      obtain ⟨r, hr1, hr2⟩ := hrw.2 i _ hl
      obtain rfl : u = .ref r := Option.some.inj (hu.symm.trans hr1)
      generalize hle : ls[i]'hi = l at *
      have hlm : l ∈ ls := List.mem_of_getElem? hl
      refine ⟨rfl, yes ?_⟩
      refine ⟨.int p, rfl, .ref r, rfl, .int q, rfl, p, q, r, l, rfl, hp, hp9, by omega, hlt l hlm, s1 _ _ hr2, fun H2 t s2 et => ?_⟩
      have eD2 := s2 _ _ eD
      refine ⟨t, rfl, ⟨_, .inl (.inl et)⟩, wk_tup (us := nv (vsL p l q)) (fun j H' => Same H H' ∧ H' t = some (.tup (nv (vsL p l q))) ∧ H' D = some (.lst (nv (lsF p q (ls.take i) ++ (vsL p l q).take j)))) ⟨s1.trans s2, et, by rw [List.take_zero, List.append_nil]; exact eD2⟩ (fun j H' z => .inl (.inl z.2.1)) ?_ ?_⟩
      · rintro j x H3 hx ⟨s3, et3, eD3⟩
        obtain ⟨n, hn', rfl⟩ := nv_get' hx
        have hjl := (List.getElem?_eq_some_iff.mp hn').1
        refine ⟨rfl, yes ⟨_, rfl, _, eD3, ?_, fun b o z => ?_, ?_, ?_⟩⟩
        · rw [nv_len, List.length_append, lsF_len, List.length_take, List.length_take]
          rw [vsL_len] at hjl
          have : min i ls.length * q ≤ 10 * 60 := Nat.mul_le_mul (by omega) hq
          exact small1000 (by omega)
        · rw [upd_ne (ne_of_none z nD)]
          exact s3 b o z
        · rw [upd_ne (fun e => by rw [e, eD3] at et3; cases et3)]
          exact et3
        · rw [upd_same, List.take_add_one, hn', ← List.append_assoc]
          simp [nv]
      · rintro H3 ⟨s3, et3, eD3⟩
        refine ⟨s3, ?_⟩
        rw [nv_len, List.take_length] at eD3
        rw [eD3, lsF_take hl]
    · rintro H1 ⟨s1, eD⟩
      rw [hrw.1, List.take_length] at eD
      exact ⟨D, _, rfl, .inl ⟨.inl (.inl eD), fun t nt => fin _ t (same_new s1 nt) upd_same⟩⟩
/-! ### unlike -/
theorem scUn : FnScope ["_law_pot", "_law_low", "_law_high", "_law_size", "_law_found", "_law_turn", "_law_one"] ["_law_pot", "_law_low", "_law_high", "_law_size"] (defScope sUn) := ⟨rfl, rfl, rfl, by decide +kernel, rfl, by decide +kernel, by decide +kernel⟩
def spUn : Sp := fun vs H Q _ => ∃ (a : Addr) (q k m : Nat), vs = [.ref a, .int 0, .int q, .int k] ∧ 0 < q ∧ q ≤ 60 ∧ k ≤ q ∧ Pot H a m ∧ m < 90000 ∧ ∀ H' r zs, Keeps a H H' → Pot H' a (m + k) → r ≠ a → H' r = some (.lst (nv zs)) → zs.Nodup → (∀ z ∈ zs, z < q) → zs.length = k → Q (.ref r) H'
theorem ok_un (F : Fun K "_law_unlike" "_law_unlike" sUn f fd) (GT' : FnOk P w K mg base CX0 1 fT fdT ["_law_pot", "_law_size"] spTake) (kT : PySem.W.keepIn K (.ref fT) = true) (bT : Binds K fdT ["_law_pot", "_law_size"] []) (gT : mg "_law_take" = some (.ref fT)) (mr : mg "range" = none) (mn : mg "min" = none) :
    FnOk P w K mg base CX0 2 f fd ["_law_pot", "_law_low", "_law_high", "_law_size"] spUn := by
  refine F.ok scUn (fun vs H Q E h => ?_) (fun cdv A outer s H vs Q E hr h => ?_)
  · obtain ⟨a, b, c, d, rfl, _⟩ := h
    rfl
  · obtain ⟨a, q, k, m, rfl, hq, hq6, hkq, hp, hm, fin⟩ := h
    refine ⟨_, pss_cons (ps_set (i := 4) scUn.nd rfl (.inl rfl) (pe_lst pa_nil))
      (pss_cons (ps_for PassesOwn.never rfl (pi_range1 (by rfl) mr (pa_cons (pe_callB (call_min2 rfl) (by rfl) mn (by decide +kernel) (pa_cons (pv 3) (pa_cons (pe_op op_sub (pv 2) (pv 1)) pa_nil))) pa_nil)) (pg_name (i := 5) scUn.nd rfl (.inl rfl))
        (pss_cons (ps_set (i := 6) scUn.nd rfl (.inl rfl) (pe_op op_add (pv 1) (pe_call GT' (hr.mono (by decide)) (by rfl) gT kT bT .nil pass0 (pa_cons (pv 0) (pa_cons (pe_op op_subN (pv 2) (pv 1)) pa_nil)))))
        (pss_cons (ps_while PassesOwn.never (pt_cmpR op_in_seq (pv 6) (pv 4) (by rfl))
          (pss_one (ps_set (i := 6) scUn.nd rfl (.inl rfl) (pe_op op_add (pv 1) (pe_op op_mod (pe_op op_sub (pe_op op_add (pv 6) pe_int) (pv 1)) (pe_op op_sub (pv 2) (pv 1)))))))
        (pss_one (ps_expr (pe_bm PySem.F.plainAttrs_list PySem.F.slot_list_append PySem.F.type_list_append mt_append (pv 4) (pa_cons (pv 6) pa_nil)))))))
      (pss_one (ps_ret (pv 4)))), ?_⟩
    refine ⟨(by show 0 ≤ sizeLine; decide), fun D nD => ?_⟩
    have hDa : D ≠ a := pot_ne hp nD
    have emin : (if (q : Int) - ((0 : Nat) : Int) < (k : Int) then (q : Int) - ((0 : Nat) : Int) else (k : Int)) = (k : Int) := by split <;> omega
    refine ⟨.int k, rfl, .int q, rfl, .int 0, rfl, _, _, rfl, rfl, _, _, rfl, _, rfl, ?_, ?_, for_range (lo := 0) (fun i σ H' => ∃ y5 y6, σ = [some (.ref a), some (.int 0), some (.int q), some (.int k), some (.ref D), y5, y6] ∧ Keeps a H H' ∧ Pot H' a (m + i) ∧ ∃ ss : List Nat, H' D = some (.lst (nv ss)) ∧ ss.Nodup ∧ (∀ z ∈ ss, z < q) ∧ ss.length = i) ⟨none, none, rfl, (Keeps.refl a H).new nD, hp.new nD, [], upd_same, List.nodup_nil, fun z hz => absurd hz List.not_mem_nil, rfl⟩ ?_ ?_⟩
    · split <;> omega
    · split <;> omega
    · rintro i σ H1 hi ⟨y5, y6, rfl, k1, p1, ss, eD, nds, hlt, hl⟩
      have hik : i < k := by
        split at hi <;> omega
      refine ⟨.int 0, rfl, .ref a, rfl, .int q, rfl, .int 0, rfl, q, 0, rfl, rfl, by omega, a, q, m + i, rfl, by omega, by omega, p1, by omega, fun c H2 hc k2 p2 => ?_⟩
      have eD2 := k2 D _ hDa eD
      refine ⟨_, _, rfl, rfl, ?_⟩
      have ec : (0 : Int) + ((c : Nat) : Int) = (((c + 0) % q : Nat) : Int) := by rw [Nat.add_zero, Nat.mod_eq_of_lt hc]; omega
      refine while_m (fun n σ H' => ∃ x : Nat, n = q - x ∧ x ≤ q ∧ σ = [some (.ref a), some (.int 0), some (.int q), some (.int k), some (.ref D), some (.int (0 + (i : Nat))), some (.int ((c + x) % q : Nat))] ∧ H' = H2 ∧ ∀ x', x' < x → (c + x') % q ∈ ss)
        (fun σ H' => ∃ z : Nat, σ = [some (.ref a), some (.int 0), some (.int q), some (.int k), some (.ref D), some (.int (0 + (i : Nat))), some (.int (z : Nat))] ∧ H' = H2 ∧ z < q ∧ z ∉ ss)
        ⟨q, 0, rfl, Nat.zero_le _, by rw [← ec]; rfl, rfl, fun x' h => absurd h (Nat.not_lt_zero _)⟩ ?_ ?_ ?_
      · rintro n σ H' ⟨x, rfl, hx, rfl, rfl, hin⟩
        refine ⟨_, rfl, .ref D, rfl, D, _, rfl, .inl (.inl (.inl eD2)), rfl, flat_nv ss, _, rfl, ?_⟩
        show if inV (.int (((c + x) % q : Nat) : Int)) (nv ss) = true then _ else _
        rw [in_nvD]
        cases b : decide ((c + x) % q ∈ ss) with
        | false => exact iteF ⟨_, rfl, rfl, Nat.mod_lt _ hq, of_decide_eq_false b⟩
        | true =>
          have hin2 : ∀ x', x' < x + 1 → (c + x') % q ∈ ss := fun x' h => by
            rcases Nat.lt_succ_iff_lt_or_eq.mp h with h1 | rfl
            · exact hin x' h1
            · exact of_decide_eq_true b
          have hxq : x + 1 ≤ ss.length ∨ q ≤ x := by
            by_cases z : q ≤ x
            · exact .inr z
            · refine .inl ?_
              have := nodup_le (l := (List.range (x + 1)).map fun x' => (c + x') % q) (m := ss) (by
                unfold List.Nodup
                rw [List.pairwise_map]
                refine List.Pairwise.imp_of_mem (fun {u v} hu hv huv e => ?_) (List.nodup_range (n := x + 1))
                have hu := List.mem_range.mp hu
                have hv := List.mem_range.mp hv
                exact huv (turn_inj (by' := c) (show u < q by omega) (show v < q by omega) (by rw [Nat.add_comm u, Nat.add_comm v]; exact e))) (fun y hy => by
                obtain ⟨x', hx', rfl⟩ := List.mem_map.mp hy
                exact hin2 x' (List.mem_range.mp hx'))
              rw [List.length_map, List.length_range] at this
              exact this
          have hx1 : x + 1 ≤ q ∧ x < q := by
            rcases hxq with z | z
            · omega
            · exfalso
              have := nodup_le (l := (List.range q).map fun x' => (c + x') % q) (m := ss) (by
                unfold List.Nodup
                rw [List.pairwise_map]
                refine List.Pairwise.imp_of_mem (fun {u v} hu hv huv e => ?_) (List.nodup_range (n := q))
                exact huv (turn_inj (by' := c) (List.mem_range.mp hu) (List.mem_range.mp hv) (by rw [Nat.add_comm u, Nat.add_comm v]; exact e))) (fun y hy => by
                obtain ⟨x', hx', rfl⟩ := List.mem_map.mp hy
                have := List.mem_range.mp hx'
                exact hin2 x' (by omega))
              rw [List.length_map, List.length_range] at this
              omega
          refine iteT ⟨_, rfl, _, rfl, _, _, rfl, rfl, _, rfl, _, _, rfl, rfl, _, rfl, _, rfl, _, _, rfl, rfl, _, _, rfl, rfl, ?_, _, _, rfl, rfl, q - (x + 1), by omega, x + 1, rfl, hx1.1, ?_, rfl, hin2⟩
          · show (0 : Int) < (q : Int) - 0
            omega
          · have e1 : (0 : Int) + ((((c + x) % q : Nat) : Int) + 1 - 0) % ((q : Int) - 0) = (((c + (x + 1)) % q : Nat) : Int) := by
              rw [Int.zero_add, Int.sub_zero, Int.sub_zero, show (c + (x + 1)) % q = ((c + x) % q + 1) % q by rw [Nat.mod_add_mod]; rfl, Int.natCast_emod, Int.natCast_add]
              rfl
            rw [← e1]
            rfl
      · rintro σ H' ⟨z, rfl, rfl, hz, hzn⟩
        refine ⟨.ref D, rfl, .inl ⟨rfl, _, .inl (.inl eD2)⟩, .int (z : Nat), rfl, D, _, _, rfl, rfl, eD2, by rw [nv_len]; exact small1000 (by omega), _, _, rfl, fun b o nb e => ?_, ?_, ss ++ [z], ?_, ?_, fun y hy => ?_, by rw [List.length_append, hl]; rfl⟩
        · rw [upd_ne (ne_of_none e nD)]
          exact k2 b o nb (k1 b o nb e)
        · obtain ⟨x1, x2, x3, hH, hh⟩ := p2
          exact ⟨x1, x2, x3, by rw [upd_ne (Ne.symm hDa)]; exact hH, hh⟩
        · rw [upd_same]
          simp [nv]
        · rw [List.nodup_append]
          refine ⟨nds, List.nodup_cons.mpr ⟨List.not_mem_nil, List.nodup_nil⟩, fun u hu v hv e => ?_⟩
          rw [List.mem_singleton.mp hv] at e
          rw [e] at hu
          exact hzn hu
        · rcases List.mem_append.mp hy with hy | hy
          · exact hlt y hy
          · rw [List.mem_singleton.mp hy]
            exact hz
      · intro σ H1 Q1 Q2 hq12 hc'
        obtain ⟨a1, b1, c1, d1, e1, f1, g1, h1, i1, j1, k1, l1, m1⟩ := hc'
        exact ⟨a1, b1, c1, d1, e1, f1, g1, h1, i1, j1, k1, l1, hq12 _ _ m1⟩
    · rintro σ H1 ⟨y5, y6, rfl, k1, p1, ss, eD, nds, hlt, hl⟩
      have hlk : ss.length = k := by
        rw [hl]
        split <;> omega
      exact ⟨.ref D, rfl, fin H1 D ss k1 (p1.up (by omega)) hDa eD nds hlt hlk⟩
end
end Bf
namespace Bf
open PySem PySem.Spec PyProof.Rows L2 LamX NdefX
theorem call_min2N {X : Cx} (hc : X.calm = true) : CallR X (.builtin "min") (fun xs H Q => ∃ i j : Nat, xs = [.int (i : Int), .int (j : Int)] ∧ Q (.int ((min i j : Nat) : Int)) H) := by
  intro pins s σ H xs us Q I r h
  obtain ⟨i, j, rfl, q⟩ := h
  refine call_min2 hc pins s σ H _ us Q I r ⟨i, j, rfl, ?_⟩
  have e : (if (j : Int) < (i : Int) then (j : Int) else (i : Int)) = ((min i j : Nat) : Int) := by split <;> omega
  rw [e]
  exact q
def rAddN : R2 := fun x y H Q => ∃ n m : Nat, x = .int (n : Int) ∧ y = .int (m : Int) ∧ Q (.int ((n + m : Nat) : Int)) H
def rMulNN : R2 := fun x y H Q => ∃ n m : Nat, x = .int (n : Int) ∧ y = .int (m : Int) ∧ n < 2 ^ 63 ∧ Q (.int ((n * m : Nat) : Int)) H
theorem rd_ifSD {tt : TT} {te : TE} {i : Nat} {D : Ends} {σ : L2.St} {H : Hp} (T : Bool → Hp → Prop) (R : V → Hp → Prop) (h0 : ∀ Q' : Bool → Hp → Prop, (∀ b H', T b H' → Q' b H') → tt σ H Q') (h1 : ∀ H', T true H' → ∀ Q : VK, (∀ x H'', R x H'' → Q x H'') → te σ H' Q)
    (h2 : ∀ H', T false H' → ∃ x, σ[i]? = some (some x) ∧ R x H') (h : ∀ x H', R x H' → D.nx (σ.set i (some x)) H') : tIfS tt (tAsg te (gName i)) tNext D σ H := by
  refine h0 _ fun b H' t => ?_
  cases b with
  | true => exact iteT (h1 H' t _ fun x H'' r => h x H'' r)
  | false =>
    obtain ⟨x, hx, r⟩ := h2 H' t
    have e : σ.set i (some x) = σ := by
      refine List.ext_getElem? fun j => ?_
      rw [List.getElem?_set]
      split
      · rename_i ej
        subst ej
        rw [hx]
        split
        · rfl
        · rename_i hj
          exact absurd (List.getElem?_eq_some_iff.mp hx).1 hj
      · rfl
    have z := h x H' r
    rw [e] at z
    exact iteF z
theorem slS {K : PySem.W.Frag} {H : Hp} {a : Addr} {xs ys : List V} {lo hi : Option Int} {Q : VK} (h : SqT K H a xs) (e : cutV xs lo hi = ys) (q : ∀ H' p, Same H H' → SqT K H' p ys → Q (.ref p) H') : rSlA K (.ref a) lo hi H Q := by
  refine ⟨a, xs, rfl, h, fun w => q H a (Same.refl H) ?_, fun _ p np => q _ p (same_new (Same.refl H) np) (.inl (.inl (by rw [upd_same, e])))⟩
  have : cutV xs lo hi = xs := by
    unfold cutV
    rw [w.1, w.2, List.drop_zero, Nat.sub_zero, List.take_length]
  rw [← e, this]
  exact h
theorem keepsT {K : PySem.W.Frag} {H H' : Hp} {a p : Addr} {xs : List V} {l : List V} (ha : H a = some (.lst l)) (k : Keeps a H H') (h : SqT K H p xs) : SqT K H' p xs := by
  rcases h with (h | ⟨o, h⟩) | h
  · exact .inl (.inl (k _ _ (fun e => by rw [e, ha] at h; cases h) h))
  · exact .inl (.inr ⟨o, k _ _ (fun e => by rw [e, ha] at h; cases h) h⟩)
  · exact .inr h
theorem pot_l {H : Hp} {a : Addr} {n : Nat} (h : Pot H a n) : ∃ l, H a = some (.lst l) := let ⟨_, _, _, e, _⟩ := h; ⟨_, e⟩
theorem RwS.keeps {H H' : Hp} {a : Addr} {l : List V} {vs : List V} {ls : List (List Nat)} (ha : H a = some (.lst l)) (k : Keeps a H H') (h : RwS H vs ls) : RwS H' vs ls := ⟨h.1, fun i l' e => by
  obtain ⟨r, h1, h2⟩ := h.2 i l' e
  exact ⟨r, h1, k _ _ (fun z => by rw [z, ha] at h2; cases h2) h2⟩⟩
theorem rows_dp {K : PySem.W.Frag} {H : Hp} : ∀ {us : List V} {ls : List (List Nat)}, RwS H us ls → DpAll K H us (ls.map fun l => .tuple (nd' l))
  | [], [], _ => .nil
  | [], _ :: _, h => by cases h.1
  | _ :: _, [], h => by cases h.1
  | u :: us, l :: ls, h => by
    obtain ⟨r, h1, h2⟩ := h.2 0 l rfl
    have : u = .ref r := Option.some.inj h1
    subst this
    exact .cons (dp_tup (.inl (.inl h2))) (rows_dp ⟨Nat.succ.inj h.1, fun i l' e => h.2 (i + 1) l' e⟩)
theorem rows_shown {ls : List (List Nat)} (h : ∀ l ∈ ls, ∀ n ∈ l, n < 2 ^ 61) (hl : ∀ l ∈ ls, l.length ≤ 100) (hn : ls.length ≤ 10) : (PyData.tuple (ls.map fun l => .tuple (nd' l))).showable = true ∧ (PyData.tuple (ls.map fun l => .tuple (nd' l))).hasDict = false ∧ (PyData.tuple (ls.map fun l => .tuple (nd' l))).depth < 60 ∧ (PyData.tuple (ls.map fun l => .tuple (nd' l))).shown.length ≤ sizeLine := by
  obtain ⟨a1, a2, a3, a4, a5, a6⟩ := ok2_all (W := 6300) (D := 2) (ls.map fun l => PyData.tuple (nd' l)) fun d hd => by
    obtain ⟨l, hl', rfl⟩ := List.mem_map.mp hd
    exact ok2_row (h l hl') (hl l hl')
  rw [List.length_map] at a5
  refine ⟨a1, a2, ?_, ?_⟩
  · show PyData.depthAll _ + 1 < 60
    omega
  · have h1 := PyData.shown_le 64 (by decide) (.tuple (ls.map fun l => .tuple (nd' l))) a4
    have h2 : PyData.weight (.tuple (ls.map fun l => .tuple (nd' l))) ≤ (6300 + 1) * ls.length := a5
    rw [sizeLine_eq]
    have h3 : (64 + 2) * PyData.weight (.tuple (ls.map fun l => .tuple (nd' l))) ≤ 66 * (6301 * 10) := Nat.mul_le_mul (by decide) (by omega)
    omega
theorem two_big {ns : List Nat} (h : ∀ n ∈ ns, n < 2 ^ 61) (hl : ns.length ≤ 600) : (PyData.list [.tuple (nd' ns), .tuple (nd' ns)]).showable = true ∧ (PyData.list [.tuple (nd' ns), .tuple (nd' ns)]).hasDict = false ∧ (PyData.list [.tuple (nd' ns), .tuple (nd' ns)]).depth < 60 ∧ (PyData.list [.tuple (nd' ns), .tuple (nd' ns)]).shown.length ≤ sizeLine := by
  have o : Ok2 (.tuple (nd' ns)) 37800 2 := ⟨nd_show _ h, nd_dict _, nd_dep _, nd_leaves _ h, by
    have h2 : PyData.weight (.tuple (nd' ns)) ≤ 63 * ns.length := nd_weight ns h
    omega, nd_canAll _⟩
  obtain ⟨a1, a2, a3, a4, a5, a6⟩ := ok2_all (W := 37800) (D := 2) [.tuple (nd' ns), .tuple (nd' ns)] fun d hd => by
    simp only [List.mem_cons, List.not_mem_nil, or_false, or_self] at hd
    rw [hd]
    exact o
  refine ⟨a1, a2, ?_, ?_⟩
  · show PyData.depthAll _ + 1 < 60
    omega
  · have h1 := PyData.shown_le 64 (by decide) (.list [.tuple (nd' ns), .tuple (nd' ns)]) a4
    have h2 : PyData.weight (.list [.tuple (nd' ns), .tuple (nd' ns)]) ≤ (37800 + 1) * 2 := a5
    rw [sizeLine_eq]
    have h3 : (64 + 2) * PyData.weight (.list [.tuple (nd' ns), .tuple (nd' ns)]) ≤ 66 * (37801 * 2) := Nat.mul_le_mul (by decide) h2
    omega
theorem lsF_at {p q i t : Nat} {ls : List (List Nat)} {l : List Nat} (h : ls[i]? = some l) (ht : t < q) : (lsF p q ls)[i * q + t]? = some (ev l (t + 1) % p) := by
  have hi := (List.getElem?_eq_some_iff.mp h).1
  have e : ls = ls.take i ++ l :: ls.drop (i + 1) := by
    have h1 := (List.take_append_drop i ls).symm
    rw [List.drop_eq_getElem_cons hi] at h1
    have h2 : ls[i] = l := (List.getElem?_eq_some_iff.mp h).2
    rw [h2] at h1
    exact h1
  have e2 : lsF p q ls = lsF p q (ls.take i) ++ (vsL p l q ++ lsF p q (ls.drop (i + 1))) := by
    have h3 : lsF p q ls = lsF p q (ls.take i ++ l :: ls.drop (i + 1)) := congrArg (lsF p q) e
    rw [h3, lsF_app]
    rfl
  have hl : (lsF p q (ls.take i)).length = i * q := by rw [lsF_len, List.length_take, Nat.min_eq_left (by omega)]
  rw [e2, List.getElem?_append_right (by omega), hl, Nat.add_sub_cancel_left, List.getElem?_append_left (by rw [vsL_len]; exact ht)]
  unfold vsL
  rw [List.getElem?_map, List.getElem?_range ht]
  rfl
section
variable {P : Program} {w : World} {K : PySem.W.Frag} {mg : Str → Option Value} {base : Heap} {f fT fO fFi fNu fFo fLe fUn fRt fP fRi : Addr} {fd fdT fdO fdFi fdNu fdFo fdLe fdUn fdRt fdP fdRi : FuncData} {k : Nat}
structure Rq (P : Program) (w : World) (K : PySem.W.Frag) (mg : Str → Option Value) (base : Heap) (fT fO fFi fNu fFo fLe fUn fRt : Addr) (fdT fdO fdFi fdNu fdFo fdLe fdUn fdRt : FuncData) : Prop where
  GT : FnOk P w K mg base CX0 1 fT fdT ["_law_pot", "_law_size"] spTake
  kT : PySem.W.keepIn K (.ref fT) = true
  bT : Binds K fdT ["_law_pot", "_law_size"] []
  gT : mg "_law_take" = some (.ref fT)
  GO : FnOk P w K mg base CX0 2 fO fdO ["_law_pot", "_law_some"] (spOf K)
  kO : PySem.W.keepIn K (.ref fO) = true
  bO : Binds K fdO ["_law_pot", "_law_some"] []
  gO : mg "_law_of" = some (.ref fO)
  GFi : FnOk P w K mg base CX0 3 fFi fdFi ["_law_pot", "_law_wide"] spFi
  kFi : PySem.W.keepIn K (.ref fFi) = true
  bFi : Binds K fdFi ["_law_pot", "_law_wide"] []
  gFi : mg "_law_field" = some (.ref fFi)
  GNu : FnOk P w K mg base CX0 3 fNu fdNu ["_law_pot", "_law_prime", "_law_size"] spNu
  kNu : PySem.W.keepIn K (.ref fNu) = true
  bNu : Binds K fdNu ["_law_pot", "_law_prime", "_law_size"] []
  gNu : mg "_law_numbers" = some (.ref fNu)
  GFo : FnOk P w K mg base CX0 2 fFo fdFo ["_law_prime", "_law_line", "_law_wide"] (spFo K)
  kFo : PySem.W.keepIn K (.ref fFo) = true
  bFo : Binds K fdFo ["_law_prime", "_law_line", "_law_wide"] []
  gFo : mg "_law_first_ones" = some (.ref fFo)
  GLe : FnOk P w K mg base CX0 3 fLe fdLe ["p", "q", "rows"] (spLe K)
  kLe : PySem.W.keepIn K (.ref fLe) = true
  bLe : Binds K fdLe ["p", "q", "rows"] []
  gLe : mg "letters" = some (.ref fLe)
  GUn : FnOk P w K mg base CX0 2 fUn fdUn ["_law_pot", "_law_low", "_law_high", "_law_size"] spUn
  kUn : PySem.W.keepIn K (.ref fUn) = true
  bUn : Binds K fdUn ["_law_pot", "_law_low", "_law_high", "_law_size"] []
  gUn : mg "_law_unlike" = some (.ref fUn)
  GRt : FnOk P w K mg base CX0 4 fRt fdRt ["p", "k", "pairs"] (spRt K)
  kRt : PySem.W.keepIn K (.ref fRt) = true
  bRt : Binds K fdRt ["p", "k", "pairs"] []
  gRt : mg "row_through" = some (.ref fRt)
  nLe : KBinds K fdLe ["p", "q", "rows"] ["rows", "q", "p"] (gP [2, 1, 0]) (gP [2, 1, 0])
  mt : mg "tuple" = none
  mr : mg "range" = none
  rp : mg "repr" = none
  ml : mg "len" = none
  ms : mg "list" = none
  mn : mg "min" = none
  me : mg "enumerate" = none
/-! ### right -/
theorem scRi : FnScope ["_law_pot", "_law_wide", "_law_prime", "_law_size", "_law_lines", "_law_ahead", "_law_due", "_law_line", "_law_cut", "_law_both", "_law_nth", "_law_trees", "_law_dots", "_law_turn", "_law_tree"] ["_law_pot"] (defScope sRi) := ⟨rfl, rfl, rfl, by decide +kernel, rfl, by decide +kernel, by decide +kernel⟩
def spRi : Sp := fun vs H Q _ => ∃ a n, vs = [.ref a] ∧ Pot H a n ∧ n < 70000 ∧ ∀ H', Keeps a H H' → Pot H' a (n + 300) → Q (.bl true) H'
theorem ok_ri (F : Fun K "_law_right" "_law_right" sRi f fd) (T : Rq P w K mg base fT fO fFi fNu fFo fLe fUn fRt fdT fdO fdFi fdNu fdFo fdLe fdUn fdRt) : FnG P w K mg base 5 f fd ["_law_pot"] spRi := by
  refine fnG_of F scRi (fun vs H Q E h => ?_) (fun cdv A outer s H vs Q E gd hr h => ?_)
  · obtain ⟨a, n, rfl, _⟩ := h
    rfl
  · obtain ⟨a, N, rfl, hp, hN, fin⟩ := h
    refine ⟨_, (pss_cons (ps_set (i := 1) scRi.nd rfl (.inr rfl) (pe_call T.GO (hr.mono (by decide)) (by rfl) T.gO T.kO T.bO .nil pass0 (pa_cons (pv 0) (pa_cons (pe_lst (pa_cons pe_int (pa_cons pe_int (pa_cons pe_int (pa_cons pe_int (pa_cons pe_int (pa_cons pe_int (pa_cons (pe_op op_addN pe_int (pe_call T.GT (hr.mono (by decide)) (by rfl) T.gT T.kT T.bT .nil pass0 (pa_cons (pv 0) (pa_cons pe_int pa_nil)))) pa_nil)))))))) pa_nil))))
      (pss_cons (ps_asg (pe_tup (pa_cons (pe_call T.GFi (hr.mono (by decide)) (by rfl) T.gFi T.kFi T.bFi .nil pass0 (pa_cons (pv 0) (pa_cons (pv 1) pa_nil))) (pa_cons (pe_op op_addN pe_int (pe_call T.GT (hr.mono (by decide)) (by rfl) T.gT T.kT T.bT .nil pass0 (pa_cons (pv 0) (pa_cons (pe_callB (call_min2N rfl) (by rfl) T.mn (by decide +kernel) (pa_cons (pv 1) (pa_cons pe_int pa_nil))) pa_nil)))) pa_nil))) (pg_tup (by rfl) (pgs_cons (pg_name (i := 2) scRi.nd rfl (.inr rfl)) (pgs_cons (pg_name (i := 3) scRi.nd rfl (.inr rfl)) pgs_nil))))
      (pss_cons (ps_set (i := 4) scRi.nd rfl (.inl rfl) (pe_callTy call_tuple_of (by rfl) T.mt (by decide +kernel) (pa_cons (pe_lc (own := [("_law_turn", 13)]) (g := gName 13) (by rfl) scRi.nd (pi_range1 (by rfl) T.mr (pa_cons (pe_call T.GT (hr.mono (by decide)) (by rfl) T.gT T.kT T.bT .nil pass0 (pa_cons (pv 0) (pa_cons pe_int pa_nil))) pa_nil))
        (blkOk_by (own := [("_law_turn", 13)]) (N := ["_law_pot", "_law_wide", "_law_prime", "_law_size", "_law_lines", "_law_ahead", "_law_due", "_law_line", "_law_cut", "_law_both", "_law_nth", "_law_trees", "_law_dots", "_law_turn", "_law_tree"]) (sc := defScope sRi) (by decide +kernel)) (fun _ _ _ _ _ => pg_name (i := 13) scRi.nd rfl (Or.inl rfl))
        (fun _ _ _ _ _ => pts_nil) (fun _ _ _ _ _ => (pe_call T.GNu (hr.mono (by decide)) (by rfl) T.gNu T.kNu T.bNu .nil pass0 (pa_cons (pv 0) (pa_cons (pv 2) (pa_cons (pv 3) pa_nil)))))) pa_nil)))
      (pss_cons (ps_if (pt_cmpR op_eq (pe_call T.GT (hr.mono (by decide)) (by rfl) T.gT T.kT T.bT .nil pass0 (pa_cons (pv 0) (pa_cons pe_int pa_nil))) pe_int (nomark _)) (pss_one (ps_set (i := 4) scRi.nd rfl (.inl rfl) (pe_op op_catA (pv 4) (pe_slice sl_tupA (pv 4) po_none (po_some pe_int))))) pss_nil)
      (pss_cons (ps_asg (pe_tup (pa_cons (pe_callB (call_reprA gd hr.units) (by rfl) T.rp (by decide +kernel) (pa_cons (pv 4) pa_nil)) (pa_cons (pe_lst pa_nil) pa_nil))) (pg_tup (by rfl) (pgs_cons (pg_name (i := 5) scRi.nd rfl (.inl rfl)) (pgs_cons (pg_name (i := 6) scRi.nd rfl (.inr rfl)) pgs_nil))))
      (pss_cons (ps_for PassesOwn.never rfl (pi_tup (pv 4)) (pg_name (i := 7) scRi.nd rfl (.inl rfl)) (pss_one (ps_expr (pe_bm PySem.F.plainAttrs_list PySem.F.slot_list_extend PySem.F.type_list_extend mt_extend (pv 6) (pa_cons (pe_callTy call_list_of (by rfl) T.ms (by decide +kernel) (pa_cons (pe_call T.GFo (hr.mono (by decide)) (by rfl) T.gFo T.kFo T.bFo .nil pass0 (pa_cons (pv 2) (pa_cons (pv 7) (pa_cons (pv 1) pa_nil)))) pa_nil)) pa_nil)))))
      (pss_cons (ps_if (pt_cmpR op_ne (pe_callB (call_reprA gd hr.units) (by rfl) T.rp (by decide +kernel) (pa_cons (pe_lst (pa_cons (pe_call T.GLe (hr.mono (by decide)) (by rfl) T.gLe T.kLe T.bLe .nil pass0 (pa_cons (pv 2) (pa_cons (pv 1) (pa_cons (pv 4) pa_nil)))) (pa_cons (pe_callK0 T.GLe (hr.mono (by decide)) (by rfl) T.gLe T.kLe T.nLe pass0 (pk_cons (pv 4) (pk_cons (pv 1) (pk_cons (pv 2) pk_nil)))) pa_nil))) pa_nil)) (pe_callB (call_reprA gd hr.units) (by rfl) T.rp (by decide +kernel) (pa_cons (pe_op op_rep (pe_lst (pa_cons (pe_callTy call_tuple_of (by rfl) T.mt (by decide +kernel) (pa_cons (pv 6) pa_nil)) pa_nil)) pe_int) pa_nil)) (nomark _)) (pss_one (ps_ret pe_bl)) pss_nil)
      (pss_cons (ps_set (i := 8) scRi.nd rfl (.inl rfl) (pe_call T.GT (hr.mono (by decide)) (by rfl) T.gT T.kT T.bT .nil pass0 (pa_cons (pv 0) (pa_cons (pe_op op_addN (pe_callB call_len_seq (by rfl) T.ml PySem.boot_len (pa_cons (pv 4) pa_nil)) pe_int) pa_nil))))
      (pss_cons (ps_set (i := 9) scRi.nd rfl (.inl rfl) (pe_op op_catA (pe_call T.GLe (hr.mono (by decide)) (by rfl) T.gLe T.kLe T.bLe .nil pass0 (pa_cons (pv 2) (pa_cons (pv 1) (pa_cons (pe_slice sl_tupA (pv 4) po_none (po_some (pv 8))) pa_nil)))) (pe_call T.GLe (hr.mono (by decide)) (by rfl) T.gLe T.kLe T.bLe .nil pass0 (pa_cons (pv 2) (pa_cons (pv 1) (pa_cons (pe_slice sl_tupA (pv 4) (po_some (pv 8)) po_none) pa_nil))))))
      (pss_cons (ps_if (PW.pt (pw_or (pt_cmpR (op_neD hr.units) (pv 9) (pe_callTy call_tuple_of (by rfl) T.mt (by decide +kernel) (pa_cons (pv 6) pa_nil)) (nomark _)) (pw_or1 (pt_cmpR op_ne (pe_callB (call_reprA gd hr.units) (by rfl) T.rp (by decide +kernel) (pa_cons (pv 4) pa_nil)) (pv 5) (nomark _))))) (pss_one (ps_ret pe_bl)) pss_nil)
      (pss_cons (ps_for PassesOwn.never rfl (pi_enT (by rfl) T.me (pa_cons (pv 4) pa_nil)) (pg_tup (by rfl) (pgs_cons (pg_name (i := 10) scRi.nd rfl (.inr rfl)) (pgs_cons (pg_name (i := 7) scRi.nd rfl (.inl rfl)) pgs_nil))) (pss_cons (ps_set (i := 11) scRi.nd rfl (.inl rfl) (pe_call T.GUn (hr.mono (by decide)) (by rfl) T.gUn T.kUn T.bUn .nil pass0 (pa_cons (pv 0) (pa_cons pe_int (pa_cons (pv 1) (pa_cons (pv 3) pa_nil)))))) (pss_cons (ps_set (i := 12) scRi.nd rfl (.inl rfl) (pe_callTy call_tuple_of (by rfl) T.mt (by decide +kernel) (pa_cons (pe_lc (own := [("_law_tree", 14)]) (g := gName 14) (te := tTup (tCons (tOp rAddN (tVar 14) (tC (.int 1))) (tCons (tOp (rIxL K) (tVar 6) (tOp rAddN (tOp rMulNN (tVar 10) (tVar 1)) (tVar 14))) tNil))) (by rfl) scRi.nd (pi_list (pv 11))
        (blkOk_by (own := [("_law_tree", 14)]) (N := ["_law_pot", "_law_wide", "_law_prime", "_law_size", "_law_lines", "_law_ahead", "_law_due", "_law_line", "_law_cut", "_law_both", "_law_nth", "_law_trees", "_law_dots", "_law_turn", "_law_tree"]) (sc := defScope sRi) (by decide +kernel)) (fun _ _ _ _ _ => pg_name (i := 14) scRi.nd rfl (Or.inl rfl))
        (fun _ _ _ _ _ => pts_nil) (fun _ _ _ _ _ => pe_tup (pa_cons (pe_op op_addN (pv 14) pe_int) (pa_cons (pe_ix ix_list (pv 6) (pe_op op_addN (pe_op op_mulNN (pv 10) (pv 1)) (pv 14)) (fun _ _ => rfl)) pa_nil)))) pa_nil))) (pss_one (ps_if (pt_cmpR (op_neD hr.units) (pe_call T.GRt (hr.mono (by decide)) (by rfl) T.gRt T.kRt T.bRt .nil pass0 (pa_cons (pv 2) (pa_cons (pv 3) (pa_cons (pv 12) pa_nil)))) (pv 7) (nomark _)) (pss_one (ps_ret pe_bl)) pss_nil)))))
      (pss_one (ps_ret pe_bl))))))))))))), ?_⟩
    -- how many trees
    refine ⟨.ref a, rfl, .ref a, rfl, a, 60, N, rfl, by decide, by decide, hp, by omega, fun r1 H1 l1 k1 p1 => ?_⟩
    refine ⟨1, r1, rfl, rfl, (by show 7 ≤ sizeLine; decide), fun L nL => ?_⟩
    refine ⟨a, L, _, N + 1, rfl, fun H' kp => .inl (.inl (kp L _ (pot_ne p1 nL) upd_same)), (by show 0 < 7; decide), (by show 7 < 1073741824; decide), p1.new nL, by omega, fun v H2 hv k2 p2 => ?_⟩
    obtain ⟨q, rfl, hq, hq6⟩ : ∃ g : Nat, v = .int (g : Int) ∧ 0 < g ∧ g ≤ 60 := by
      simp only [List.mem_cons, List.not_mem_nil, or_false] at hv
      rcases hv with rfl | rfl | rfl | rfl | rfl | rfl | rfl
      · exact ⟨1, rfl, by decide, by decide⟩
      · exact ⟨2, rfl, by decide, by decide⟩
      · exact ⟨3, rfl, by decide, by decide⟩
      · exact ⟨4, rfl, by decide, by decide⟩
      · exact ⟨7, rfl, by decide, by decide⟩
      · exact ⟨60, rfl, by decide, by decide⟩
      · exact ⟨1 + r1, rfl, by omega, by omega⟩
    have K2 : Keeps a H H2 := (k1.new nL).trans k2
    clear k1 k2 nL hv p1
    -- the prime, how long rows are
    refine ⟨.ref a, rfl, .int q, rfl, a, q, N + 2, rfl, hq6, p2, by omega, fun p H3 hpm hqp k3 p3 => ?_⟩
    have hP : IsP p := plist_p p hpm
    have hpb := prL_ok p hpm
    have hp2 := hpb.1
    have hp9 := hpb.2
    have hp0 : 0 < p := by omega
    refine ⟨.ref a, rfl, .int q, rfl, q, 12, rfl, a, min q 12, N + 3, rfl, by omega, by omega, p3, by omega, fun r4 H4 l4 k4 p4 => ?_⟩
    obtain ⟨k, ek, hk1, hkq, hk12⟩ : ∃ k, 1 + r4 = k ∧ 1 ≤ k ∧ k ≤ q ∧ k ≤ 12 := ⟨1 + r4, rfl, by omega, by omega, by omega⟩
    refine ⟨1, r4, rfl, rfl, (by show 2 ≤ sizeLine; decide), fun tt ntt => ⟨tt, _, rfl, .inl (.inl upd_same), rfl, _, _, rfl, _, _, rfl, rfl, ?_⟩⟩
    rw [ek]
    have K4 : Keeps a H _ := ((K2.trans k3).trans k4).new ntt (o := .tup [V.int (p : Nat), .int (k : Nat)])
    have p4' := p4.new ntt (o := .tup [V.int (p : Nat), .int (k : Nat)])
    generalize upd H4 tt (.tup [V.int (p : Nat), .int (k : Nat)]) = H5 at *
    clear k3 k4 ntt p2 p3 p4 K2
    -- the rows
    refine ⟨.ref a, rfl, a, 7, N + 4, rfl, by decide, by decide, p4', by omega, fun nl H6 l6 k6 p6 => ?_⟩
    have K6 := K4.trans k6
    refine ⟨_, rfl, by omega, by omega, fun D nD => lc_range (lo := 0) (n := nl) (fun i H' => ∃ us ls, H' D = some (.lst us) ∧ RwS H' us ls ∧ ls.length = i ∧ (∀ l ∈ ls, l.length = k ∧ ∀ n ∈ l, n < p) ∧ Keeps a H6 H' ∧ Pot H' a (N + 5 + 2 * k * i)) ⟨[], [], upd_same, ⟨rfl, fun i l e => by cases e⟩, rfl, fun l hl => absurd hl List.not_mem_nil, (Keeps.refl a H6).new nD, (p6.new nD).up (by omega)⟩ ?_ ?_⟩
    · rintro i H7 hi ⟨us, ls, eD, hrw, hll, hok, k7, p7⟩
      have hi : i < nl := hi
      have hDa : D ≠ a := pot_ne p6 nD
      have hki : 2 * k * i ≤ 24 * 7 := Nat.mul_le_mul (by omega) (by omega)
      refine ⟨rfl, yes ⟨.ref a, rfl, .int (p : Nat), rfl, .int (k : Nat), rfl, a, p, k, N + 5 + 2 * k * i, rfl, hp2, hp9, by omega, p7, by omega, fun H8 r ns k8 p8 hra er hnl hnp => ?_⟩⟩
      have eD8 := k8 D _ hDa eD
      obtain ⟨la, hla⟩ := pot_l p7
      have hrw8 := hrw.keeps hla k8
      have hrD : r ≠ D := fun e => by rw [e, eD8] at er; cases er
      refine ⟨_, eD8, ?_, us ++ [.ref r], ls ++ [ns], upd_same, RwS.app ⟨hrw8.1, fun j l e => ?_⟩ ⟨rfl, fun j l e => ?_⟩, by rw [List.length_append, hll]; rfl, fun l hl => ?_, fun b o nb z => ?_, ?_⟩
      · rw [hrw8.1, hll]
        exact small1000 (by omega)
      · obtain ⟨r', h1, h2⟩ := hrw8.2 j l e
        exact ⟨r', h1, by rw [upd_ne (fun z => by rw [z, eD8] at h2; cases h2)]; exact h2⟩
      · match j, e with
        | 0, e =>
          obtain rfl : ns = l := Option.some.inj e
          exact ⟨r, rfl, by rw [upd_ne hrD]; exact er⟩
        | j + 1, e => cases e
      · rcases List.mem_append.mp hl with hl | hl
        · exact hok l hl
        · rw [List.mem_singleton.mp hl]
          exact ⟨hnl, hnp⟩
      · rw [upd_ne (ne_of_none z nD)]
        exact k8 b o nb (k7 b o nb z)
      · obtain ⟨x, y, z, hH, hh⟩ := p8.up (show _ ≤ N + 5 + 2 * k * (i + 1) by rw [Nat.mul_succ]; omega)
        exact ⟨x, y, z, by rw [upd_ne (Ne.symm hDa)]; exact hH, hh⟩
    · rintro H7 ⟨us0, ls0, eD, hrw0, hll, hok0, k7, p7⟩
      have hnl7 : nl ≤ 6 := by omega
      have hki : 2 * k * nl ≤ 24 * 6 := Nat.mul_le_mul (by omega) hnl7
      refine ⟨D, _, rfl, .inl ⟨.inl (.inl eD), fun t nt => ?_⟩⟩
      have K7 := (K6.trans k7).new nt (o := .tup us0)
      have p7' := (p7.new nt (o := .tup us0)).up (show _ ≤ N + 149 by omega)
      have et : (upd H7 t (.tup us0)) t = some (.tup us0) := upd_same
      have hrw7 := hrw0.same (same_new (Same.refl H7) nt (o := .tup us0))
      generalize upd H7 t (.tup us0) = H8 at *
      clear k7 p7 hrw0 eD nD nt K6 K4 p6 k6 p4'
      dsimp only [gName, tSeq]
      refine rd_ifSD (fun b H' => Keeps a H8 H' ∧ Pot H' a (N + 150)) (fun x H' => ∃ pl us ls, x = .ref pl ∧ SqT K H' pl us ∧ RwS H' us ls ∧ ls.length ≤ 7 ∧ (∀ l ∈ ls, l.length = k ∧ ∀ n ∈ l, n < p) ∧ Keeps a H8 H' ∧ Pot H' a (N + 150)) ?_ ?_ ?_ ?_
      · exact fun Q' z => ⟨.ref a, rfl, a, 4, N + 149, rfl, by decide, by decide, p7', by omega, fun r H' l kk pp => ⟨rfl, _, rfl, z _ _ ⟨kk, pp⟩⟩⟩
      · rintro H' ⟨kk, pp⟩ Q' z
        obtain ⟨la, hla⟩ := pot_l p7'
        have st : SqT K H' t us0 := keepsT hla kk (.inl (.inl et))
        have hr' := hrw7.keeps hla kk
        refine ⟨.ref t, rfl, .ref t, rfl, 1, rfl, slS st (cut_take (n := 1)) fun H1 t1 s1 e1 => ?_⟩
        refine cat_gen (sameT s1 st) e1 (by rw [List.length_take, hr'.1]; exact Nat.le_of_lt (small1000 (by omega))) fun t2 H2 s2 e2 => ?_
        have sA := s1.trans s2
        refine z _ _ ⟨t2, us0 ++ us0.take 1, ls0 ++ ls0.take 1, rfl, e2, (hr'.same sA).app ((hr'.same sA).take 1), by rw [List.length_append, List.length_take]; omega, fun l hl => ?_, kk.trans (Keeps.of_same sA), pp.same sA⟩
        rcases List.mem_append.mp hl with hl | hl
        · exact hok0 l hl
        · exact hok0 l (List.mem_of_mem_take hl)
      · rintro H' ⟨kk, pp⟩
        obtain ⟨la, hla⟩ := pot_l p7'
        exact ⟨.ref t, rfl, t, us0, ls0, rfl, keepsT hla kk (.inl (.inl et)), hrw7.keeps hla kk, by omega, hok0, kk, pp⟩
      · rintro x H9 ⟨pl, us, ls, rfl, hS, hrw, hls, hok, k9, p9⟩
        have K9 := K7.trans k9
        clear K7 k9 p7' et hrw7 hok0 hll
        have big : ∀ l ∈ ls, ∀ n ∈ l, n < 2 ^ 61 := fun l hl n hn => by have := (hok l hl).2 n hn; omega
        have sh := rows_shown big (fun l hl => by rw [(hok l hl).1]; omega) (by omega)
        have hul : us.length = ls.length := hrw.1
        have hul7 : us.length ≤ 7 := by omega
        -- as shown, and the list of what is due
        refine ⟨.ref pl, rfl, .inr ⟨pl, _, rfl, .tup hS (rows_dp hrw), sh.1, sh.2.1, sh.2.2.1, sh.2.2.2, (by show 0 ≤ sizeLine; decide), fun D nD => ⟨(by show 2 ≤ sizeLine; decide), fun t2 nt2 => ⟨t2, _, rfl, .inl (.inl upd_same), rfl, _, _, rfl, _, _, rfl, rfl, ?_⟩⟩⟩⟩
        generalize hshow : (PyData.tuple (ls.map fun l => .tuple (nd' l))).shown = text at *
        have sA : Same H9 (upd (upd H9 D (.lst [])) t2 (.tup [V.str text, .ref D])) := same_new (same_new (Same.refl H9) nD) nt2
        have eD0 : (upd (upd H9 D (.lst [])) t2 (.tup [V.str text, .ref D])) D = some (.lst []) := by rw [upd_ne (ne_of_none upd_same nt2), upd_same]
        have hDa : D ≠ a := pot_ne p9 nD
        have hSA := sameT sA hS
        have hrwA := hrw.same sA
        have pA := p9.same sA
        have KA := K9.trans (Keeps.of_same sA)
        have nDH : ∀ b o, H9 b = some o → b ≠ D := fun b o e => ne_of_none e nD
        generalize upd (upd H9 D (.lst [])) t2 (.tup [V.str text, .ref D]) = HA at *
        refine ⟨.ref pl, rfl, pl, rfl, ⟨_, hSA⟩, for_tup (xs := us) (fun i σ H' => ∃ y7 y8 y9 ya yb yc yd ye, σ = [some (.ref a), some (.int q), some (.int (p : Nat)), some (.int (k : Nat)), some (.ref pl), some (.str text), some (.ref D), y7, y8, y9, ya, yb, yc, yd, ye] ∧ Keeps D HA H' ∧ H' D = some (.lst (nv (lsF p q (ls.take i))))) ⟨_, _, _, _, _, _, _, _, rfl, Keeps.refl D HA, eD0⟩ (fun i σ H' _ z => by obtain ⟨_, _, _, _, _, _, _, _, _, z1, _⟩ := z; exact keepsT eD0 z1 hSA) ?_ ?_⟩
        · rintro i u σ H1 hu ⟨y7, y8, y9, ya, yb, yc, yd, ye, rfl, k1, eD⟩
          have hi : i < ls.length := by rw [← hul]; exact (List.getElem?_eq_some_iff.mp hu).1
          have hl := List.getElem?_eq_getElem hi
          obtain ⟨r, hr1, hr2⟩ := (hrwA.keeps eD0 k1).2 i _ hl
          obtain rfl : u = .ref r := Option.some.inj (hu.symm.trans hr1)
          generalize hle : ls[i]'hi = l at *
          have hlm : l ∈ ls := List.mem_of_getElem? hl
          refine ⟨.ref D, rfl, .inl ⟨rfl, _, .inl (.inl eD)⟩, .int (p : Nat), rfl, .ref r, rfl, .int q, rfl, p, q, r, l, rfl, hp2, hp9, by omega, big l hlm, hr2, fun H2 t3 s2 e3 => ?_⟩
          refine ⟨t3, _, rfl, .inr (.inl (.inl e3)), fun l3 nl3 => ?_⟩
          have eD2 : (upd H2 l3 (.lst (nv (vsL p l q)))) D = some (.lst (nv (lsF p q (ls.take i)))) := by rw [upd_ne (ne_of_none (s2 _ _ eD) nl3)]; exact s2 _ _ eD
          refine ⟨D, l3, _, _, rfl, rfl, eD2, upd_same, ?_, _, _, _, _, _, _, _, _, rfl, fun b o nb e => ?_, ?_⟩
          · rw [nv_len, nv_len, lsF_len, vsL_len, List.length_take]
            have : min i ls.length * q ≤ 7 * 60 := Nat.mul_le_mul (by omega) hq6
            exact Nat.le_of_lt (small1000 (by omega))
          · rw [upd_ne nb]
            exact same_new s2 nl3 b o (k1 b o nb e)
          · rw [upd_same, lsF_take hl, nv_app]
        · rintro σ H1 ⟨y7, y8, y9, ya, yb, yc, yd, ye, rfl, k1, eD⟩
          rw [hul, List.take_length] at eD
          have hS1 := keepsT eD0 k1 hSA
          have hrw1 := hrwA.keeps eD0 k1
          have p1 : Pot H1 a (N + 150) := by
            obtain ⟨x, y, z, hH, hh⟩ := pA
            exact ⟨x, y, z, k1 a _ (Ne.symm hDa) hH, hh⟩
          have K1 : Keeps a H H1 := fun b o nb e => by
            have e9 := K9 b o nb e
            exact k1 b o (nDH b o e9) (sA b o e9)
          clear k1 hSA hrwA pA KA eD0 sA hS hrw p9
          have hdl : (lsF p q ls).length ≤ 600 := by
            rw [lsF_len]
            have : ls.length * q ≤ 7 * 60 := Nat.mul_le_mul hls hq6
            omega
          have hdn : ∀ n ∈ lsF p q ls, n < 2 ^ 61 := fun n hn => by have := lsF_lt hp0 n hn; omega
          have tb := two_big hdn hdl
          generalize hdu : lsF p q ls = du at *
          -- all letters
          refine ⟨.int (p : Nat), rfl, .int q, rfl, .ref pl, rfl, p, q, pl, us, ls, rfl, hp0, hp9, hq6, by omega, big, hS1, hrw1, fun H2 t4 s2 e4 => ?_⟩
          rw [hdu] at e4
          refine ⟨.ref pl, rfl, .int q, rfl, .int (p : Nat), rfl, p, q, pl, us, ls, rfl, hp0, hp9, hq6, by omega, big, sameT s2 hS1, hrw1.same s2, fun H3 t5 s3 e5 => ?_⟩
          rw [hdu] at e5
          refine ⟨(by show 2 ≤ sizeLine; decide), fun L4 n4 => ?_⟩
          have s4 : Same H3 (upd H3 L4 (.lst [V.ref t4, .ref t5])) := same_new (Same.refl H3) n4
          refine .inr ⟨L4, _, rfl, .lst (.inl (.inl upd_same)) (.cons (dp_tup (.inl (.inl (s4 _ _ (s3 _ _ e4))))) (.cons (dp_tup (.inl (.inl (s4 _ _ e5)))) .nil)), tb.1, tb.2.1, tb.2.2.1, tb.2.2.2, ?_⟩
          have s14 := (s2.trans s3).trans s4
          have eD4 := s14 _ _ eD
          generalize upd H3 L4 (.lst [V.ref t4, .ref t5]) = H4 at *
          refine ⟨.ref D, rfl, D, _, rfl, .inl ⟨.inl (.inl eD4), fun t6 n6 => ⟨(by show 1 ≤ sizeLine; decide), fun L7 n7 => ?_⟩⟩⟩
          have s6 : Same H4 (upd (upd H4 t6 (.tup (nv du))) L7 (.lst [V.ref t6])) := same_new (same_new (Same.refl H4) n6) n7
          have e6 : (upd (upd H4 t6 (.tup (nv du))) L7 (.lst [V.ref t6])) t6 = some (.tup (nv du)) := by rw [upd_ne (ne_of_none upd_same n7), upd_same]
          refine ⟨L7, 2, _, rfl, rfl, upd_same, by decide, by decide, (by show 1 * 2 ≤ sizeLine; decide), fun L8 n8 => ?_⟩
          have s8 : Same (upd (upd H4 t6 (.tup (nv du))) L7 (.lst [V.ref t6])) (upd (upd (upd H4 t6 (.tup (nv du))) L7 (.lst [V.ref t6])) L8 (.lst (List.replicate (2 : Int).toNat [V.ref t6]).flatten)) := same_new (Same.refl _) n8
          have e8 := s8 _ _ e6
          refine .inr ⟨L8, _, rfl, .lst (.inl (.inl (show _ = some (HO.lst [V.ref t6, .ref t6]) from upd_same))) (.cons (dp_tup (.inl (.inl e8))) (.cons (dp_tup (.inl (.inl e8))) .nil)), tb.1, tb.2.1, tb.2.2.1, tb.2.2.2, rfl, _, rfl, ?_⟩
          rw [decide_eq_true rfl]
          refine iteF ?_
          have s18 := (s14.trans s6).trans s8
          generalize upd (upd (upd H4 t6 (.tup (nv du))) L7 (.lst [V.ref t6])) L8 (.lst (List.replicate (2 : Int).toNat [V.ref t6]).flatten) = H5 at *
          have eD5 := s18 _ _ eD
          have hS5 := sameT s18 hS1
          have hrw5 := hrw1.same s18
          have p5 := p1.same s18
          have K5 := K1.trans (Keeps.of_same s18)
          clear s2 s3 s4 s14 s6 s8 s18 e4 e5 e6 e8 eD4 hS1 hrw1 p1 K1 eD n4 n6 n7 n8
          -- cut in two
          refine ⟨.ref a, rfl, .ref pl, rfl, pl, _, rfl, .inr hS5, us.length, 1, rfl, rfl, a, us.length + 1, N + 150, rfl, by omega, by omega, p5, by omega, fun cut H6 lc6 k6 p6 => ?_⟩
          obtain ⟨la, hla⟩ := pot_l p5
          have hS6 := keepsT hla k6 hS5
          have hrw6 := hrw5.keeps hla k6
          have eD6 := k6 D _ hDa eD5
          have K6 := K5.trans k6
          clear k6 hS5 hrw5 eD5 K5 p5 hla
          refine ⟨.int (p : Nat), rfl, .int q, rfl, .ref pl, rfl, .int (cut : Nat), rfl, _, rfl, slS hS6 (cut_take (n := cut)) fun H7 t7 s7 e7 => ?_⟩
          refine ⟨p, q, t7, _, ls.take cut, rfl, hp0, hp9, hq6, by rw [List.length_take]; omega, fun l hl => big l (List.mem_of_mem_take hl), e7, (hrw6.same s7).take cut, fun H8 t8 s8 e8 => ?_⟩
          have s68 := s7.trans s8
          refine ⟨.int (p : Nat), rfl, .int q, rfl, .ref pl, rfl, .int (cut : Nat), rfl, (cut : Int), rfl, ?_⟩
          dsimp only [tNoPart]
          refine slS (sameT s68 hS6) (cut_drop (n := cut)) fun H9' t9 s9 e9 => ?_
          refine ⟨p, q, t9, _, ls.drop cut, rfl, hp0, hp9, hq6, by rw [List.length_drop]; omega, fun l hl => big l (List.mem_of_mem_drop hl), e9, ((hrw6.same s68).same s9).drop cut, fun Hb tb' sb eb => ?_⟩
          have s6b := (s68.trans s9).trans sb
          refine cat_gen (.inl (.inl (sb _ _ (s9 _ _ e8)))) (.inl (.inl eb)) (by rw [nv_len, nv_len, lsF_len, lsF_len, List.length_take, List.length_drop]; have h1 : min cut ls.length * q ≤ 7 * 60 := Nat.mul_le_mul (by omega) hq6; have h2 : (ls.length - cut) * q ≤ 7 * 60 := Nat.mul_le_mul (by omega) hq6; exact Nat.le_of_lt (small1000 (by omega))) fun tc Hc sc ec => ?_
          have s6c := s6b.trans sc
          rw [nv_app, ← lsF_app, List.take_append_drop, hdu] at ec
          have eDc := s6c _ _ eD6
          refine ⟨.ref tc, rfl, .ref D, rfl, D, _, rfl, .inl ⟨.inl (.inl eDc), fun td nd => ?_⟩⟩
          have s6d := s6c.trans (same_new (Same.refl Hc) nd (o := .tup (nv du)))
          refine ⟨_, _, dp_tup (sameT (same_new (Same.refl Hc) nd) ec), dp_tup (.inl (.inl upd_same)), nd_shaped _, nd_shaped _, _, rfl, ?_⟩
          rw [PySem.SeqAt.eqv_refl _ (nd_can du)]
          refine iteF ?_
          generalize upd Hc td (.tup (nv du)) = Hd at *
          have hSd := sameT s6d hS6
          have hrwd := hrw6.same s6d
          refine ⟨.ref pl, rfl, .inr ⟨pl, _, rfl, .tup hSd (rows_dp hrwd), sh.1, sh.2.1, sh.2.2.1, ?_, .str text, rfl, rfl, _, rfl, ?_⟩⟩
          · rw [hshow]
            exact sh.2.2.2
          rw [hshow, decide_eq_true rfl]
          refine iteF ?_
          have eDd := s6d _ _ eD6
          have pd := p6.same s6d
          have Kd := K6.trans (Keeps.of_same s6d)
          clear s7 s8 s68 s9 sb s6b sc s6c s6d e7 e8 e9 eb ec eDc nd hS6 hrw6 eD6 p6 K6
          -- row by row
          refine ⟨.ref pl, rfl, pl, us, rfl, hSd, for_it (walk_enT (us := us)) (fun i σ H' => ∃ y7 y8 y9 ya yb yc yd ye, σ = [some (.ref a), some (.int q), some (.int (p : Nat)), some (.int (k : Nat)), some (.ref pl), some (.str text), some (.ref D), y7, y8, y9, ya, yb, yc, yd, ye] ∧ Keeps a H H' ∧ SqT K H' pl us ∧ RwS H' us ls ∧ H' D = some (.lst (nv du)) ∧ Pot H' a (N + 151 + 12 * i)) ⟨_, _, _, _, _, _, _, _, rfl, Kd, hSd, hrwd, eDd, pd⟩ (fun i σ H' _ z => by obtain ⟨_, _, _, _, _, _, _, _, _, _, z1, _⟩ := z; exact z1) ?_ ?_⟩
          · rintro i v σ HE HF hi ⟨y7, y8, y9, ya, yb, yc, yd, ye, rfl, KE, hSE, hrwE, eDE, pE⟩ ⟨Tp, vx, vy, rfl, nT, rfl, ex, ey⟩
            obtain rfl : V.int (i : Nat) = vx := Option.some.inj ex
            have hil : i < ls.length := by omega
            have hl := List.getElem?_eq_getElem hil
            obtain ⟨r, hr1, hr2⟩ := hrwE.2 i _ hl
            obtain rfl : vy = .ref r := Option.some.inj (ey.symm.trans hr1)
            generalize hle : ls[i]'hil = l at *
            have hlm : l ∈ ls := List.mem_of_getElem? hl
            have sT : Same HE (upd HE Tp (.tup [V.int (i : Nat), .ref r])) := same_new (Same.refl HE) nT
            refine ⟨Tp, _, rfl, .inl (.inl upd_same), rfl, _, _, rfl, _, _, rfl, rfl, ?_⟩
            have eDT := sT _ _ eDE
            have hrT := sT _ _ hr2
            have pT := pE.same sT
            have hST := sameT sT hSE
            have hrwT := hrwE.same sT
            have KT := KE.trans (Keeps.of_same sT)
            generalize upd HE Tp (.tup [V.int (i : Nat), .ref r]) = HG at *
            refine ⟨.ref a, rfl, .int q, rfl, .int (k : Nat), rfl, a, q, k, N + 151 + 12 * i, rfl, hq, hq6, hkq, pT, by omega, fun HH rz zs kH pH hza ez nz hzq hzl => ?_⟩
            obtain ⟨la, hla⟩ := pot_l pT
            have eDH := kH D _ hDa eDT
            have hrH := kH r _ (fun e => by rw [e, hla] at hrT; cases hrT) hrT
            have hSH := keepsT hla kH hST
            have hrwH := hrwT.keeps hla kH
            have KH' := KT.trans kH
            refine ⟨.ref rz, rfl, rz, rfl, ⟨_, .inl (.inl ez)⟩, fun G nG => lc_list (xs := nv zs) (fun j H' => Same HH H' ∧ ∃ ws, H' G = some (.lst ws) ∧ PrS H' ws (valsAt p l ((zs.take j).map (· + 1)))) ⟨same_new (Same.refl HH) nG, [], upd_same, rfl, fun i' xv e => by cases e⟩ (fun j H' _ z => .inl (.inl (z.1 _ _ ez))) ?_ ?_⟩
            · rintro j u HI hu ⟨sI, ws, eG, hpr⟩
              obtain ⟨n, hn, rfl⟩ := nv_get' hu
              have hnq := hzq n (List.mem_of_getElem? hn)
              have hjl := (List.getElem?_eq_some_iff.mp hn).1
              have hat : atI (nv du) (((i * q + n : Nat)) : Int) = some (.int ((ev l (n + 1) % p : Nat) : Int)) := atI_nat (nv_at (by rw [← hdu]; exact lsF_at hl hnq))
              have hi6 : i < 2 ^ 63 := by omega
              refine ⟨rfl, yes ⟨.int (n : Nat), rfl, n, 1, rfl, rfl, .ref D, rfl, .int (i : Nat), rfl, .int q, rfl, i, q, rfl, rfl, hi6, .int (n : Nat), rfl, i * q, n, rfl, rfl, D, _, _, _, rfl, rfl, .inl (.inl (sI _ _ eDH)), hat, (by show 2 ≤ sizeLine; decide), fun tp np => ?_⟩⟩
              have sJ : Same HI (upd HI tp (.tup [V.int ((n + 1 : Nat) : Int), V.int ((ev l (n + 1) % p : Nat) : Int)])) := same_new (Same.refl HI) np
              have ej : (upd HI tp (.tup [V.int ((n + 1 : Nat) : Int), V.int ((ev l (n + 1) % p : Nat) : Int)])) tp = some (.tup (nv [n + 1, ev l (n + 1) % p])) := upd_same
              have eG2 := sJ _ _ eG
              have hpr2 := hpr.same sJ
              generalize upd HI tp (.tup [V.int ((n + 1 : Nat) : Int), V.int ((ev l (n + 1) % p : Nat) : Int)]) = HJ at *
              have hwl : ws.length = j := by
                rw [hpr.1]
                unfold valsAt
                rw [List.length_map, List.length_map, List.length_take]
                omega
              have etk : valsAt p l ((zs.take (j + 1)).map (· + 1)) = valsAt p l ((zs.take j).map (· + 1)) ++ [(n + 1, ev l (n + 1) % p)] := by
                rw [List.take_add_one, hn]
                simp [valsAt]
              refine ⟨_, eG2, by rw [hwl]; exact small1000 (by omega), fun b o z => ?_, ws ++ [.ref tp], upd_same, ?_⟩
              · rw [upd_ne (ne_of_none z nG)]
                exact sJ b o (sI b o z)
              · rw [etk]
                refine ⟨by rw [List.length_append, List.length_append, hpr2.1]; rfl, fun i' xv e => ?_⟩
                by_cases c : i' < (valsAt p l ((zs.take j).map (· + 1))).length
                · rw [List.getElem?_append_left c] at e
                  obtain ⟨r', h1, h2⟩ := hpr2.2 i' xv e
                  exact ⟨r', by rw [List.getElem?_append_left (by rw [hpr2.1]; exact c)]; exact h1, by rw [upd_ne (fun z => by rw [z, eG2] at h2; cases h2)]; exact h2⟩
                · rw [List.getElem?_append_right (by omega)] at e
                  match hd : i' - (valsAt p l ((zs.take j).map (· + 1))).length, e with
                  | 0, e =>
                    have exv : (n + 1, ev l (n + 1) % p) = xv := Option.some.inj e
                    rw [← exv]
                    refine ⟨tp, by rw [List.getElem?_append_right (by rw [hpr2.1]; omega), hpr2.1, hd]; rfl, ?_⟩
                    rw [upd_ne (fun z => by rw [z, eG2] at ej; cases ej)]
                    exact ej
                  | _ + 1, e => cases e
            · rintro HI ⟨sI, ws, eG, hpr⟩
              rw [nv_len, List.take_length] at hpr
              refine ⟨G, _, rfl, .inl ⟨.inl (.inl eG), fun tw nw => ?_⟩⟩
              have sJ : Same HI (upd HI tw (.tup ws)) := same_new (Same.refl HI) nw
              have ej : (upd HI tw (.tup ws)) tw = some (.tup ws) := upd_same
              have hprJ := hpr.same sJ
              generalize upd HI tw (.tup ws) = HJ at *
              have sHJ := sI.trans sJ
              refine ⟨.int (p : Nat), rfl, .int (k : Nat), rfl, .ref tw, rfl, p, k, tw, ws, l, zs.map (· + 1), rfl, hP, hp9, (hok l hlm).1, by omega, by rw [List.length_map, hzl]; exact Nat.le_refl k, by rw [List.length_map]; omega, (hok l hlm).2, ?_, ej, hprJ, fun HK rk sK ek' => ?_⟩
              · rw [List.pairwise_map]
                refine List.Pairwise.imp_of_mem (fun {x y} hx hy hxy z => hxy ?_) nz
                have h1 := hzq x hx
                have h2 := hzq y hy
                obtain ⟨c, hc⟩ := z
                have : c = 0 := by
                  rcases Int.lt_trichotomy c 0 with l' | l' | l'
                  · have : (p : Int) * c ≤ (p : Int) * (-1) := Int.mul_le_mul_of_nonneg_left (by omega) (by omega)
                    omega
                  · exact l'
                  · have : (p : Int) * 1 ≤ (p : Int) * c := Int.mul_le_mul_of_nonneg_left (by omega) (by omega)
                    omega
                rw [this, Int.mul_zero] at hc
                omega
              have sHK := sHJ.trans sK
              refine ⟨.ref r, rfl, _, _, dp_tup (.inl (.inl ek')), dp_tup (.inl (.inl (sHK _ _ hrH))), nd_shaped _, nd_shaped _, _, rfl, ?_⟩
              rw [PySem.SeqAt.eqv_refl _ (nd_can l)]
              refine iteF ⟨_, _, _, _, _, _, _, _, rfl, KH'.trans (Keeps.of_same sHK), sameT sHK hSH, hrwH.same sHK, sHK _ _ eDH, (pH.same sHK).up (by omega)⟩
          · rintro σ HE ⟨y7, y8, y9, ya, yb, yc, yd, ye, rfl, KE, hSE, hrwE, eDE, pE⟩
            exact fin HE KE (pE.up (by omega))
theorem scLaw : FnScope ["_law_script", "_law_nth", "_law_pot", "_law_turn"] ["_law_script"] (defScope sLaw) := ⟨rfl, rfl, rfl, by decide +kernel, rfl, by decide +kernel, by decide +kernel⟩
structure Lw (mg : Str → Option Value) (fP fRi : Addr) : Prop where
  gP : mg "_law_urn" = some (.ref fP)
  gRi : mg "_law_right" = some (.ref fRi)
  len : mg "len" = none
  rng : mg "range" = none
  mx : mg "max" = none
  mn : mg "min" = none
def spLaw (K : PySem.W.Frag) : Sp := fun vs H Q _ => ∃ (a : Addr) (ns : List Int), vs = [.ref a] ∧ SqL K H a (ns.map V.int) ∧ ns.length ≤ 63 ∧ ∀ H', Q (.bl true) H'
theorem ok_law {fP fRi : Addr} {fdP fdRi : FuncData} (F : Fun K "law" "law" sLaw f fd) (T : Lw mg fP fRi)
    (GP : FnOk P w K mg base CX0 1 fP fdP ["_law_script", "_law_nth"] (spPot K)) (kP : PySem.W.keepIn K (.ref fP) = true) (bP : Binds K fdP ["_law_script", "_law_nth"] [])
    (GRi : FnG P w K mg base 5 fRi fdRi ["_law_pot"] spRi) (kRi : PySem.W.keepIn K (.ref fRi) = true) (bRi : Binds K fdRi ["_law_pot"] []) :
    FnG P w K mg base 6 f fd ["_law_script"] (spLaw K) := by
  refine fnG_of F scLaw (fun vs H Q E h => ?_) (fun cdv A outer s H vs Q E gd hr h => ?_)
  · obtain ⟨a, n, rfl, _⟩ := h
    rfl
  · obtain ⟨a, ns, rfl, hS, hl, fin⟩ := h
    refine ⟨_, pss_cons (ps_for PassesOwn.never rfl (pi_range1 (by rfl) T.rng (pa_cons (pe_callB (call_max2 rfl) (by rfl) T.mx (by decide +kernel) (pa_cons pe_int (pa_cons (pe_callB (call_min2 rfl) (by rfl) T.mn (by decide +kernel)
        (pa_cons pe_int (pa_cons (pe_callB call_len_seq (by rfl) T.len PySem.boot_len (pa_cons (pv 0) pa_nil)) pa_nil))) pa_nil))) pa_nil)) (pg_name (i := 1) scLaw.nd rfl (.inl rfl))
      (pss_cons (ps_set (i := 2) scLaw.nd rfl (.inl rfl) (pe_call GP (hr.mono (by decide)) (by rfl) T.gP kP bP .nil pass0 (pa_cons (pv 0) (pa_cons (pv 1) pa_nil))))
      (pss_one (ps_for PassesOwn.never rfl (pi_range1 (by rfl) T.rng (pa_cons pe_int pa_nil)) (pg_name (i := 3) scLaw.nd rfl (.inl rfl))
        (pss_one (ps_if (pt_not (pt_val (pe_callG (E := E0) GRi gd hr (by rfl) T.gRi kRi bRi .nil (pa_cons (pv 2) pa_nil)))) (pss_one (ps_ret pe_bl)) pss_nil))))))
      (pss_one (ps_ret pe_bl)), ?_⟩
    refine ⟨.ref a, rfl, a, _, rfl, .inl hS, _, _, rfl, _, _, rfl, _, rfl, ?_, ?_, for_range (lo := 0) (fun i σ H' => ∃ y1 y2 y3, σ = [some (.ref a), y1, y2, y3] ∧ ExtN H H') ⟨none, none, none, rfl, ExtN.refl H⟩ ?_ ?_⟩
    · split <;> split <;> omega
    · split <;> split <;> omega
    · rintro i σ H1 hi ⟨y1, y2, y3, rfl, x1⟩
      have hi2 : i ≤ 100 := by
        refine Nat.le_of_lt (Nat.lt_of_lt_of_le hi ?_)
        split <;> split <;> omega
      refine ⟨.ref a, rfl, .int (0 + i), rfl, a, ns, i, by rw [Int.zero_add]; rfl, extL x1 hS, hl, hi2, fun H2 p s2 np pp => ?_⟩
      refine ⟨2, rfl, by decide, by decide, for_range (lo := 0) (n := 2) (fun j σ H' => ∃ y3, σ = [some (.ref a), some (.int (0 + i)), some (.ref p), y3] ∧ Keeps p H2 H' ∧ Pot H' p (j * 300)) ⟨_, rfl, Keeps.refl _ _, pp⟩ ?_ ?_⟩
      · rintro j σ H3 hj ⟨y3, rfl, k3, p3⟩
        refine ⟨.ref p, rfl, p, j * 300, rfl, p3, by omega, fun H4 k4 p4 => ⟨_, rfl, iteF ?_⟩⟩
        exact ⟨_, rfl, k3.trans k4, p4.up (by omega)⟩
      · rintro σ H3 ⟨y3, rfl, k3, p3⟩
        exact ⟨_, _, _, rfl, x1.trans (ext_kt np (ExtN.of s2) (KT.k k3))⟩
    · rintro σ H1 ⟨y1, y2, y3, rfl, x1⟩
      exact fin H1
end
end Bf
namespace Bf
open PySem PySem.Spec PyProof.Rows L2 LamX
/-- what is tracked at the law's call: the tables ts, empty; the script at a, locked, where it isn't written -/
def G0 (K : PySem.W.Frag) (ts : List Addr) (a : Addr) (ob : Obj) (xs : List V) : Hp := fun b =>
  if b ∈ ts then some (.tbl #[]) else if b = a ∧ (K.lookup a).isNone = true then some (.frz ob (.lst xs)) else none
section
variable {K : PySem.W.Frag} {ts : List Addr} {a b : Addr} {ob : Obj} {xs : List V}
theorem g0_tab (h : b ∈ ts) : G0 K ts a ob xs b = some (.tbl #[]) := if_pos h
theorem g0_scr (h : a ∉ ts) (n : K.lookup a = none) : G0 K ts a ob xs a = some (.frz ob (.lst xs)) := (if_neg h).trans (if_pos ⟨rfl, by rw [n]; rfl⟩)
theorem g0_some {u : HO} (h : G0 K ts a ob xs b = some u) : (b ∈ ts ∧ u = .tbl #[]) ∨ (b ∉ ts ∧ b = a ∧ K.lookup a = none ∧ u = .frz ob (.lst xs)) := by
  unfold G0 at h
  by_cases m : b ∈ ts
  · rw [if_pos m] at h
    exact .inl ⟨m, (Option.some.inj h).symm⟩
  · rw [if_neg m] at h
    by_cases c : b = a ∧ (K.lookup a).isNone = true
    · rw [if_pos c] at h
      exact .inr ⟨m, c.1, Option.isNone_iff_eq_none.mp c.2, (Option.some.inj h).symm⟩
    · rw [if_neg c] at h
      cases h
end
theorem law_tabs {P : Program} {w : World} {K : PySem.W.Frag} {mg mb : Str → Option Value} {k : Nat} {fa a : Addr} {cs : List (Addr × Addr)} {fd : FuncData} {x : Str} {sp : Sp} {z : Shared} {vs : List Value} {ns : List Int}
    (KI : K.In z.heap) (n1 : z.heap.Ns mainGlobals mg) (n2 : z.heap.Ns builtinsNs mb) (n3 : ∀ y : Str, y ≠ "__name__" → mb y = bootBuiltins y) (n4 : z.heap.NoLimit) (n5 : z.gens = #[])
    (t1 : ∀ p ∈ cs, z.heap.get? p.2 = some { cls := .none, data := .fields #[] }) (t2 : ∀ p ∈ cs, K.lookup p.2 = none) (t3 : ∀ p ∈ cs, PySem.W.CodeHd z.heap p.1 p.2)
    (t4 : ∃ (bm : Addr) (ob : Obj), mg "__builtins__" = some (.ref bm) ∧ bm ≠ builtinsNs ∧ z.heap.get? bm = some ob ∧ ob.cls = .type "module" ∧ ob.dict = some builtinsNs ∧ ob.data = .plain)
    (oa : z.heap.get? a = some { cls := .type "list", data := .seq vs.toArray }) (ia : IntsAre vs ns) (la : ns.length ≤ sizeLine) (rm : Room k callerA)
    (F : ∀ base : Heap, K.In base → base.Ns mainGlobals mg → (∀ p ∈ cs, TabB base mg p.1 p.2) → FnG P w K mg base k fa fd [x] sp) (bd : ∀ (s : Shared) (u : Value), BindsTo s fd ⟨[u], []⟩ [(x, u)])
    (hs : ∀ G : Hp, (∀ p ∈ cs, G p.2 = some (.tbl #[])) → SqL K G a (ns.map V.int) → sp [.ref a] G (fun v _ => v = .bl true) fun _ _ _ => False) :
    codeAny (model P w) callerA (.call (.ref fa) ⟨[.ref a], []⟩) (fun r y => r = .ok (.ret (.bool true)) ∧ OldK z.heap y.heap ∧ y.os = z.os ∧ AllBare y.gens) z := by
  have tm : ∀ b ∈ cs.map (·.2), ∃ p ∈ cs, p.2 = b := fun b h => by
    obtain ⟨p, hp, e⟩ := List.mem_map.mp h
    exact ⟨p, hp, e⟩
  have nat : a ∉ cs.map (·.2) := fun h => by
    obtain ⟨p, hp, e⟩ := tm a h
    have q := t1 p hp
    rw [e, oa] at q
    cases q
  generalize hG : G0 K (cs.map (·.2)) a { cls := .type "list", data := .seq vs.toArray } (ns.map V.int) = G
  have some' : ∀ {b u}, G b = some u → (b ∈ cs.map (·.2) ∧ u = .tbl #[]) ∨ (b ∉ cs.map (·.2) ∧ b = a ∧ K.lookup a = none ∧ u = .frz { cls := .type "list", data := .seq vs.toArray } (.lst (ns.map V.int))) := fun {b u} h => g0_some (hG ▸ h)
  have tabG : ∀ p ∈ cs, G p.2 = some (.tbl #[]) := fun p hp => hG ▸ g0_tab (List.mem_map.mpr ⟨p, hp, rfl⟩)
  have rv := vals_ints ia
  have sq : SqL K G a (ns.map V.int) := by
    cases e : K.lookup a with
    | none => exact .inl (.inr ⟨_, hG ▸ g0_scr nat e⟩)
    | some o =>
      have q := KI a o e
      rw [oa] at q
      cases q
      exact .inr ⟨_, vs.toArray, _, e, rfl, rfl, rfl, by rw [List.size_toArray, ia.length]; exact la, by simpa using rv⟩
  have ok : HOk P w G z.heap := fun b u e => by
    rcases some' e with ⟨m, rfl⟩ | ⟨_, rfl, _, rfl⟩
    · obtain ⟨p, hp, rfl⟩ := tm b m
      exact t1 p hp
    · exact ⟨oa, by rw [List.length_map]; exact la, vs, _, rv, oa⟩
  -- what is neither a list nor an empty table isn't tracked
  have off : ∀ {b : Addr} {o : Obj}, z.heap.get? b = some o → (∀ us n, o.data ≠ .seq us n) → o.data ≠ .fields #[] → G b = none := fun {b o} e d1 d2 => by
    cases q : G b with
    | none => rfl
    | some u =>
      rcases some' q with ⟨m, _⟩ | ⟨_, rfl, _, _⟩
      · obtain ⟨p, hp, rfl⟩ := tm b m
        rw [t1 p hp] at e
        cases e
        exact (d2 rfl).elim
      · rw [oa] at e
        cases e
        exact (d1 _ _ rfl).elim
  have stay : ∀ {b : Addr} {o : Obj}, z.heap.get? b = some o → (∀ us n, o.data ≠ .seq us n) → o.data ≠ .fields #[] → (hidT z.heap G).get? b = some o := fun e d1 d2 => hidT_get e (off e d1 d2)
  have nsB : ∀ {b : Addr} {m : Str → Option Value}, z.heap.Ns b m → (hidT z.heap G).Ns b m := fun ⟨o, es, ep, e, d, r⟩ => ⟨o, es, ep, stay e (fun us n y => by rw [d] at y; cases y) (fun y => by rw [d] at y; cases y), d, r⟩
  have inB : K.In (hidT z.heap G) := fun b o e => hidT_get (KI b o e) (by
    cases q : G b with
    | none => rfl
    | some u =>
      rcases some' q with ⟨m, _⟩ | ⟨_, rfl, n, _⟩
      · obtain ⟨p, hp, rfl⟩ := tm b m
        rw [t2 p hp] at e
        cases e
      · rw [n] at e
        cases e)
  have tbB : ∀ p ∈ cs, TabB (hidT z.heap G) mg p.1 p.2 := fun p hp => by
    refine ⟨?_, ?_, fun y => ?_⟩
    · obtain ⟨o, us, file, tf, flags, tg, inF, text, tt, e1, r1, r2, r3, rest⟩ := t3 p hp
      refine ⟨o, us, file, tf, flags, tg, inF, text, tt, stay e1 (fun us n y => by rw [r2] at y; cases y) (fun y => ?_), r1, r2, r3, rest⟩
      rw [r2] at y
      cases y
      simp at r3
    · obtain ⟨bm, om, b1, b2, b3, b4, b5, b6⟩ := t4
      refine ⟨bm, om, b1, b2, fun y => ?_, fun y => ?_, stay b3 (fun us n y => by rw [b6] at y; cases y) (fun y => by rw [b6] at y; cases y), b4, b5, b6⟩
      · obtain ⟨o, es, ep, e, d, _⟩ := n1
        rw [y, e] at b3
        cases b3
        rw [d] at b6
        cases b6
      · rw [y, t1 p hp] at b3
        cases b3
        cases b6
    · obtain ⟨o, es, ep, e, d, _⟩ := n1
      rw [y, t1 p hp] at e
      cases e
      cases d
  have md : L2.Mod K mg (hidT z.heap G) := ⟨inB, nsB n1, ⟨mb, nsB n2, n3⟩, let ⟨mc, c1, c2⟩ := n4; ⟨mc, nsB c1, c2⟩⟩
  have en : Env0 P w K mg (hidT z.heap G) callerA [] z G := ⟨rfl, md, fun _ _ e => of_hidT e, Nat.le_of_eq (hidT_size _ _), trivial, (fun b h => absurd (show b ∈ ([] : List Addr) from h) List.not_mem_nil), ok, .of_eq n5⟩
  refine codeAny_mono ((F _ inB (nsB n1) tbB).go callerA [] z G ⟨[.ref a], []⟩ [.ref a] [.ref a] _ _ rfl rm en (bd z (.ref a)) (.cons rfl .nil) (hs G tabG sq)) fun r y h => ?_
  match r, h with
  | .error _, h => exact h.elim
  | .ok .next, h => exact False.elim h
  | .ok .brk, h => exact False.elim h
  | .ok .cont, h => exact False.elim h
  | .ok (.ret u), h =>
    obtain ⟨v, G', e1, e2, un, ok', r', q⟩ := h
    obtain rfl : v = .bl true := q
    obtain rfl : u = Value.bool true := r'
    -- an object that stood before: a table may have grown, all else is as it was
    have old : ∀ b o, z.heap.get? b = some o → (b ∈ cs.map (·.2) ∧ ∃ more : Array Value, y.heap.get? b = some { cls := .none, data := .fields more }) ∨ y.heap.get? b = some o := fun b o e => by
      cases q : G b with
      | none => exact .inr (un.keep b o e q (fun h => absurd (show b ∈ ([] : List Addr) from h) List.not_mem_nil) List.not_mem_nil)
      | some u =>
        rcases some' q with ⟨m, rfl⟩ | ⟨_, rfl, _, rfl⟩
        · obtain ⟨more, g⟩ := un.tbls b #[] q
          exact .inl ⟨m, _, ok' b _ g⟩
        · rw [oa] at e
          cases e
          exact .inr (ok' b _ (un.frzs b _ _ q)).1
    refine ⟨rfl, ⟨fun b o e => ?_, fun b o e => ?_⟩, e1, e2⟩
    · rcases old b o e with ⟨m, more, g⟩ | g
      · obtain ⟨p, hp, rfl⟩ := tm b m
        rw [t1 p hp] at e
        cases e
        exact .inr (.inl ⟨((t3 p hp).tab (t1 p hp)).isCodeTable, rfl, #[], more, rfl, by rw [Array.empty_append]; exact g⟩)
      · exact .inl g
    · rcases old b o e with ⟨_, more, g⟩ | g
      · exact ⟨_, g⟩
      · exact ⟨o, g⟩
theorem walkTG {l : PySem.W.OpenLaw} {n k : Nat} {q : Program} {loose : List Str} {XP : (Str → Option Value) → Heap → Prop} {YP : World → Heap → Prop} {d : DefRec} {x : Str} (hn : l.most = some n) (hn2 : n ≤ sizeLine) (hdf : d.params.defaults = []) (rm : Room k callerA)
    (F : ∀ (w : World) (mg : Str → Option Value) (fa : Addr) (h : Heap), YP w h → h.Ns mainGlobals mg → mg d.name = some (.ref fa) → ∃ (K : PySem.W.Frag) (fd : FuncData) (cs : List (Addr × Addr)) (sp : Sp), K.In h ∧
      (∀ p ∈ cs, h.get? p.2 = some { cls := .none, data := .fields #[] }) ∧ (∀ p ∈ cs, K.lookup p.2 = none) ∧ (∀ p ∈ cs, PySem.W.CodeHd h p.1 p.2) ∧ (∀ (s : Shared) (u : Value), BindsTo s fd ⟨[u], []⟩ [(x, u)]) ∧
      (∀ (H : Hp) (a : Addr) (ns : List Int), ns.length ≤ n → (∀ p ∈ cs, H p.2 = some (.tbl #[])) → SqL K H a (ns.map V.int) → sp [.ref a] H (fun v _ => v = .bl true) fun _ _ _ => False) ∧
      ∀ base : Heap, K.In base → base.Ns mainGlobals mg → (∀ p ∈ cs, TabB base mg p.1 p.2) → FnG l.prog w K mg base k fa fd [x] sp) : PySem.W.WalkO q loose XP YP l.row.toRowW d [] (fun f vs => PySem.call f vs) := by
  refine Att.attach_call hn hdf fun w s₀ s₁ mg mb fa o pm cd doc a vs ns G Y ho hd hcd hmg hobj hints hlen hg => ?_
  obtain ⟨K, fd, cs, sp, KX, t1, t2, t3, t4, t5, t6⟩ := F w mg fa _ Y G.T.g hmg
  exact law_tabs KX G.T.g G.T.b G.T.builtins G.T.nolimit hg t1 t2 t3 G.T.bmain hobj hints (Nat.le_trans hlen hn2) rm t6 t4 (fun H hH hS => t5 H a ns hlen hH hS)
end Bf
namespace Bf
open PySem PySem.Spec PyProof.Rows L2 LamX NdefX
theorem fun_of {K : PySem.W.Frag} {x : Str} {st : Stmt} {f : Addr} {fd : FuncData} (F : FunD K x x (defArgs st) (defBody st) (defScope st) [] [] f fd) : Fun K x x st f fd := by
  obtain ⟨oc, od, dV, kV, doc, pm, an, cdv, ct, osl, e, lk, hcd, hD, hK⟩ := F.ex
  rcases hD with ⟨_, rfl⟩ | ⟨z, _⟩
  · exact ⟨⟨oc, od, kV, doc, pm, an, cdv, ct, osl, e, lk, hcd⟩, F.kp⟩
  · exact absurd rfl z
theorem walkTE {l : PySem.W.OpenLaw} {n k : Nat} {q : Program} {loose : List Str} {XP : (Str → Option Value) → Heap → Prop} {YP : World → Heap → Prop} {d : DefRec} {x : Str} (hn : l.most = some n) (hn2 : n ≤ sizeLine) (hdf : d.params.defaults = []) (rm : Room k callerA)
    (F : ∀ (w : World) (mg : Str → Option Value) (fa : Addr) (h : Heap), YP w h → h.Ns mainGlobals mg → mg d.name = some (.ref fa) → ∃ K : PySem.W.Frag, K.In h ∧ LawAtS l w K CX0 k n x mg fa h) : PySem.W.WalkO q loose XP YP l.row.toRowW d [] (fun f vs => PySem.call f vs) := by
  refine Att.attach_callB hn hdf fun w s₀ s₁ mg mb fa o pm cd doc a vs ns G Y ho hd hcd hmg hobj hints hlen hbits hg => ?_
  obtain ⟨K, KX, fd, cs, sp, t1, t2, t3, t4, t5, t6⟩ := F w mg fa _ Y G.T.g hmg
  exact law_callTs KX G.T.g G.T.b G.T.builtins G.T.nolimit hg t1 t2 t3 G.T.bmain hobj hints (Nat.le_trans hlen hn2) rm t6 t4 (fun H hH hS => t5 H a ns hlen hbits hH hS) (fun _ _ _ z => z)
def dd0 : He.DefD := ⟨("raised", none), "raised", "raised", defArgs sRai, defBody sRai, defScope sRai, [], []⟩
def dd1 : He.DefD := ⟨("inverse", none), "inverse", "inverse", defArgs sInv, defBody sInv, defScope sInv, [], []⟩
def dd2 : He.DefD := ⟨("value", none), "value", "value", defArgs sVal, defBody sVal, defScope sVal, [], []⟩
def dd3 : He.DefD := ⟨("values", none), "values", "values", defArgs sVals, defBody sVals, defScope sVals, [], []⟩
def dd4 : He.DefD := ⟨("with_root", none), "with_root", "with_root", defArgs sWr, defBody sWr, defScope sWr, [], []⟩
def dd5 : He.DefD := ⟨("through", none), "through", "through", defArgs sTg, defBody sTg, defScope sTg, [], []⟩
def dd6 : He.DefD := ⟨("row_through", none), "row_through", "row_through", defArgs sRt, defBody sRt, defScope sRt, [], []⟩
def dd7 : He.DefD := ⟨("letters", none), "letters", "letters", defArgs sLe, defBody sLe, defScope sLe, [], []⟩
def dd8 : He.DefD := ⟨("_law_urn", none), "_law_urn", "_law_urn", defArgs sPot, defBody sPot, defScope sPot, [], []⟩
def dd9 : He.DefD := ⟨("_law_take", none), "_law_take", "_law_take", defArgs sTake, defBody sTake, defScope sTake, [], []⟩
def dd10 : He.DefD := ⟨("_law_of", none), "_law_of", "_law_of", defArgs sOf, defBody sOf, defScope sOf, [], []⟩
def dd11 : He.DefD := ⟨("_law_unlike", none), "_law_unlike", "_law_unlike", defArgs sUn, defBody sUn, defScope sUn, [], []⟩
def dd12 : He.DefD := ⟨("_law_field", none), "_law_field", "_law_field", defArgs sFi, defBody sFi, defScope sFi, [], []⟩
def dd13 : He.DefD := ⟨("_law_numbers", none), "_law_numbers", "_law_numbers", defArgs sNu, defBody sNu, defScope sNu, [], []⟩
def dd14 : He.DefD := ⟨("_law_comes_to", none), "_law_comes_to", "_law_comes_to", defArgs sCt, defBody sCt, defScope sCt, [], []⟩
def dd15 : He.DefD := ⟨("_law_first_ones", none), "_law_first_ones", "_law_first_ones", defArgs sFo, defBody sFo, defScope sFo, [], []⟩
def dd16 : He.DefD := ⟨("_law_right", none), "_law_right", "_law_right", defArgs sRi, defBody sRi, defScope sRi, [], []⟩
def dd17 : He.DefD := ⟨("law", none), "law", "law", defArgs sLaw, defBody sLaw, defScope sLaw, [], []⟩
def fnL : List He.DefD := [dd0, dd1, dd2, dd3, dd4, dd5, dd6, dd7, dd8, dd9, dd10, dd11, dd12, dd13, dd14, dd15, dd16, dd17]
def faL : List He.Fa := [.glo "raised", .glo "inverse", .glo "value", .glo "values", .glo "with_root", .glo "through", .glo "row_through", .glo "letters", .glo "_law_urn", .glo "_law_take", .glo "_law_of", .glo "_law_unlike", .glo "_law_field", .glo "_law_numbers", .glo "_law_comes_to", .glo "_law_first_ones", .glo "_law_right", .glo "law", .free "len", .free "abs", .free "range", .free "max", .free "min", .free "tuple", .free "int", .free "zip", .free "repr", .free "reversed", .free "list", .free "all", .free "enumerate"]
def tfL : List He.Defn := []
abbrev RR : PySem.W.OpenRow := PySem.W.OpenLaw.row PySem.Challenge.rw_beatferry_k32_letters_round_by_round
abbrev hkL : PySem.W.Hook := He.hookX 4 faL fnL [] tfL (fun _ => true)
def obL (s : PySem.W.SharedT) : He.AlX := He.obsX 4 faL fnL [] tfL (fun _ => true) (HandSHeadRun.getT s)
theorem obL_eq (s : PySem.W.SharedT) : obL s = hkL.obs s.abs := He.obsX_eq (HandSHeadRun.getT_eq s)
theorem runL (w : World) : HandSHeadRun.RunEq RR (PySem.W.view RR.prog [25]) hkL obL 5000 ["NotSo", "NoInverse", "TooFew", "raised", "inverse", "value", "values", "with_root", "through", "row_through", "letters", "_law_urn", "_law_take", "_law_of", "_law_unlike", "_law_field", "_law_numbers", "_law_comes_to", "_law_first_ones", "_law_right"] w := by
  intro os
  kernel_rfl
theorem facts {l : PySem.W.OpenLaw} {w : World} {K : PySem.W.Frag} {h : Heap} {mg : Str → Option Value} {fa : Addr} (X : K.In h) (G : h.Ns mainGlobals mg) (hfa : mg ("law" : Str) = some (.ref fa)) (c : He.SaysX faL fnL [] tfL (fun _ => true) w h K) : ∃ (fd : FuncData) (cs : List (Addr × Addr)) (sp : Sp),
      (∀ p ∈ cs, h.get? p.2 = some { cls := .none, data := .fields #[] }) ∧ (∀ p ∈ cs, K.lookup p.2 = none) ∧ (∀ p ∈ cs, PySem.W.CodeHd h p.1 p.2) ∧ (∀ (s : Shared) (u : Value), BindsTo s fd ⟨[u], []⟩ [("_law_script", u)]) ∧
      (∀ (H : Hp) (a : Addr) (ns : List Int), ns.length ≤ 63 → (∀ p ∈ cs, H p.2 = some (.tbl #[])) → SqL K H a (ns.map V.int) → sp [.ref a] H (fun v _ => v = .bl true) fun _ _ _ => False) ∧
      ∀ base : Heap, K.In base → base.Ns mainGlobals mg → (∀ p ∈ cs, TabB base mg p.1 p.2) → FnG l.prog w K mg base 6 fa fd ["_law_script"] sp := by
  have cd := c.t.d
  obtain ⟨e0, F0⟩ := cd.def_ 0 (d := dd0) rfl
  have g0 := He.glo_ok X G (cd.fact 0 (f := .glo "raised") rfl)
  obtain ⟨e1, F1⟩ := cd.def_ 1 (d := dd1) rfl
  have g1 := He.glo_ok X G (cd.fact 1 (f := .glo "inverse") rfl)
  obtain ⟨e2, F2⟩ := cd.def_ 2 (d := dd2) rfl
  have g2 := He.glo_ok X G (cd.fact 2 (f := .glo "value") rfl)
  obtain ⟨e3, F3⟩ := cd.def_ 3 (d := dd3) rfl
  have g3 := He.glo_ok X G (cd.fact 3 (f := .glo "values") rfl)
  obtain ⟨e4, F4⟩ := cd.def_ 4 (d := dd4) rfl
  have g4 := He.glo_ok X G (cd.fact 4 (f := .glo "with_root") rfl)
  obtain ⟨e5, F5⟩ := cd.def_ 5 (d := dd5) rfl
  have g5 := He.glo_ok X G (cd.fact 5 (f := .glo "through") rfl)
  obtain ⟨e6, F6⟩ := cd.def_ 6 (d := dd6) rfl
  have g6 := He.glo_ok X G (cd.fact 6 (f := .glo "row_through") rfl)
  obtain ⟨e7, F7⟩ := cd.def_ 7 (d := dd7) rfl
  have g7 := He.glo_ok X G (cd.fact 7 (f := .glo "letters") rfl)
  obtain ⟨e8, F8⟩ := cd.def_ 8 (d := dd8) rfl
  have g8 := He.glo_ok X G (cd.fact 8 (f := .glo "_law_urn") rfl)
  obtain ⟨e9, F9⟩ := cd.def_ 9 (d := dd9) rfl
  have g9 := He.glo_ok X G (cd.fact 9 (f := .glo "_law_take") rfl)
  obtain ⟨e10, F10⟩ := cd.def_ 10 (d := dd10) rfl
  have g10 := He.glo_ok X G (cd.fact 10 (f := .glo "_law_of") rfl)
  obtain ⟨e11, F11⟩ := cd.def_ 11 (d := dd11) rfl
  have g11 := He.glo_ok X G (cd.fact 11 (f := .glo "_law_unlike") rfl)
  obtain ⟨e12, F12⟩ := cd.def_ 12 (d := dd12) rfl
  have g12 := He.glo_ok X G (cd.fact 12 (f := .glo "_law_field") rfl)
  obtain ⟨e13, F13⟩ := cd.def_ 13 (d := dd13) rfl
  have g13 := He.glo_ok X G (cd.fact 13 (f := .glo "_law_numbers") rfl)
  obtain ⟨e14, F14⟩ := cd.def_ 14 (d := dd14) rfl
  have g14 := He.glo_ok X G (cd.fact 14 (f := .glo "_law_comes_to") rfl)
  obtain ⟨e15, F15⟩ := cd.def_ 15 (d := dd15) rfl
  have g15 := He.glo_ok X G (cd.fact 15 (f := .glo "_law_first_ones") rfl)
  obtain ⟨e16, F16⟩ := cd.def_ 16 (d := dd16) rfl
  have g16 := He.glo_ok X G (cd.fact 16 (f := .glo "_law_right") rfl)
  obtain ⟨e17, F17⟩ := cd.def_ 17 (d := dd17) rfl
  have g17 := He.glo_ok X G (cd.fact 17 (f := .glo "law") rfl)
  have m0 := He.free_ok X G (cd.fact 18 (f := .free "len") rfl)
  have m1 := He.free_ok X G (cd.fact 19 (f := .free "abs") rfl)
  have m2 := He.free_ok X G (cd.fact 20 (f := .free "range") rfl)
  have m3 := He.free_ok X G (cd.fact 21 (f := .free "max") rfl)
  have m4 := He.free_ok X G (cd.fact 22 (f := .free "min") rfl)
  have m5 := He.free_ok X G (cd.fact 23 (f := .free "tuple") rfl)
  have m6 := He.free_ok X G (cd.fact 24 (f := .free "int") rfl)
  have m7 := He.free_ok X G (cd.fact 25 (f := .free "zip") rfl)
  have m8 := He.free_ok X G (cd.fact 26 (f := .free "repr") rfl)
  have m9 := He.free_ok X G (cd.fact 27 (f := .free "reversed") rfl)
  have m10 := He.free_ok X G (cd.fact 28 (f := .free "list") rfl)
  have m11 := He.free_ok X G (cd.fact 29 (f := .free "all") rfl)
  have m12 := He.free_ok X G (cd.fact 30 (f := .free "enumerate") rfl)
  have ee := hfa.symm.trans g17
  cases ee
  have bL := FunD.bindsA (ps := ["_law_script"]) F17 fun _ _ _ _ _ _ us hl => match us, hl with | [_], _ => rfl
  refine ⟨e17, [], spLaw K, fun p hp => absurd hp List.not_mem_nil, fun p hp => absurd hp List.not_mem_nil, fun p hp => absurd hp List.not_mem_nil, fun s v => bL s [v] rfl, fun H a ns hl hH hS => ⟨a, ns, rfl, hS, hl, fun _ => rfl⟩, fun base _ _ TB => ?_⟩
  · skip
    have f0 := fun_of (st := sRai) F0
    have b0 := f0.binds (ps := ["n", "base", "exponent"]) fun _ _ _ _ _ _ us hl => match us, hl with | [_, _, _], _ => rfl
    have f1 := fun_of (st := sInv) F1
    have b1 := f1.binds (ps := ["p", "n"]) fun _ _ _ _ _ _ us hl => match us, hl with | [_, _], _ => rfl
    have f2 := fun_of (st := sVal) F2
    have b2 := f2.binds (ps := ["p", "row", "x"]) fun _ _ _ _ _ _ us hl => match us, hl with | [_, _, _], _ => rfl
    have f3 := fun_of (st := sVals) F3
    have b3 := f3.binds (ps := ["p", "row", "many"]) fun _ _ _ _ _ _ us hl => match us, hl with | [_, _, _], _ => rfl
    have f4 := fun_of (st := sWr) F4
    have b4 := f4.binds (ps := ["p", "row", "x"]) fun _ _ _ _ _ _ us hl => match us, hl with | [_, _, _], _ => rfl
    have f5 := fun_of (st := sTg) F5
    have b5 := f5.binds (ps := ["p", "pairs"]) fun _ _ _ _ _ _ us hl => match us, hl with | [_, _], _ => rfl
    have f6 := fun_of (st := sRt) F6
    have b6 := f6.binds (ps := ["p", "k", "pairs"]) fun _ _ _ _ _ _ us hl => match us, hl with | [_, _, _], _ => rfl
    have f7 := fun_of (st := sLe) F7
    have b7 := f7.binds (ps := ["p", "q", "rows"]) fun _ _ _ _ _ _ us hl => match us, hl with | [_, _, _], _ => rfl
    have f8 := fun_of (st := sPot) F8
    have b8 := f8.binds (ps := ["_law_script", "_law_nth"]) fun _ _ _ _ _ _ us hl => match us, hl with | [_, _], _ => rfl
    have f9 := fun_of (st := sTake) F9
    have b9 := f9.binds (ps := ["_law_pot", "_law_size"]) fun _ _ _ _ _ _ us hl => match us, hl with | [_, _], _ => rfl
    have f10 := fun_of (st := sOf) F10
    have b10 := f10.binds (ps := ["_law_pot", "_law_some"]) fun _ _ _ _ _ _ us hl => match us, hl with | [_, _], _ => rfl
    have f11 := fun_of (st := sUn) F11
    have b11 := f11.binds (ps := ["_law_pot", "_law_low", "_law_high", "_law_size"]) fun _ _ _ _ _ _ us hl => match us, hl with | [_, _, _, _], _ => rfl
    have f12 := fun_of (st := sFi) F12
    have b12 := f12.binds (ps := ["_law_pot", "_law_wide"]) fun _ _ _ _ _ _ us hl => match us, hl with | [_, _], _ => rfl
    have f13 := fun_of (st := sNu) F13
    have b13 := f13.binds (ps := ["_law_pot", "_law_prime", "_law_size"]) fun _ _ _ _ _ _ us hl => match us, hl with | [_, _, _], _ => rfl
    have f14 := fun_of (st := sCt) F14
    have b14 := f14.binds (ps := ["_law_prime", "_law_line", "_law_spot"]) fun _ _ _ _ _ _ us hl => match us, hl with | [_, _, _], _ => rfl
    have f15 := fun_of (st := sFo) F15
    have b15 := f15.binds (ps := ["_law_prime", "_law_line", "_law_wide"]) fun _ _ _ _ _ _ us hl => match us, hl with | [_, _, _], _ => rfl
    have f16 := fun_of (st := sRi) F16
    have b16 := f16.binds (ps := ["_law_pot"]) fun _ _ _ _ _ _ us hl => match us, hl with | [_], _ => rfl
    have f17 := fun_of (st := sLaw) F17
    have GRai : FnOk l.prog w K mg base CX0 1 _ _ _ _ := ok_rai f0
    have GInv : FnOk l.prog w K mg base CX0 2 _ _ _ _ := ok_inv f1 GRai f0.kp b0 g0
    have GVa : FnOk l.prog w K mg base CX0 1 _ _ _ _ := ok_va f2 m9
    have GVs : FnOk l.prog w K mg base CX0 2 _ _ _ _ := ok_vs f3 GVa f2.kp b2 g2 m2 m5
    have GWr : FnOk l.prog w K mg base CX0 1 _ _ _ _ := ok_wr f4 m7 m5
    have GTg : FnOk l.prog w K mg base CX0 3 _ _ _ _ := ok_tg f5 GVa f2.kp b2 g2 GInv f1.kp b1 g1 GWr f4.kp b4 g4 m7 m5
    have GRt : FnOk l.prog w K mg base CX0 4 _ _ _ _ := ok_rt f6 GVa f2.kp b2 g2 GTg f5.kp b5 g5 m0 m11
    have GLe : FnOk l.prog w K mg base CX0 3 _ _ _ _ := ok_le f7 GVs f3.kp b3 g3 m5
    have GP : FnOk l.prog w K mg base CX0 1 _ _ _ _ := ok_pot f8 m0 m1 m6
    have GT : FnOk l.prog w K mg base CX0 1 _ _ _ _ := ok_take f9
    have GO : FnOk l.prog w K mg base CX0 2 _ _ _ _ := ok_of f10 GT f9.kp b9 g9 m0
    have GUn : FnOk l.prog w K mg base CX0 2 _ _ _ _ := ok_un f11 GT f9.kp b9 g9 m2 m4
    have GFi : FnOk l.prog w K mg base CX0 3 _ _ _ _ := ok_fi f12 GO f10.kp b10 g10
    have GNu : FnOk l.prog w K mg base CX0 3 _ _ _ _ := ok_nu f13 GT f9.kp b9 g9 GO f10.kp b10 g10 m2 m5
    have GCt : FnOk l.prog w K mg base CX0 1 _ _ _ _ := ok_ct f14
    have GFo : FnOk l.prog w K mg base CX0 2 _ _ _ _ := ok_fo f15 GCt f14.kp b14 g14 m2 m5
    have nLe := kbQ (π := [2, 1, 0]) (ps := ["p", "q", "rows"]) (ks := ["rows", "q", "p"]) f7 (by decide) fun _ _ _ _ _ _ ws hl => match ws, hl with | [_, _, _], _ => rfl
    have GRi := ok_ri f16 ⟨GT, f9.kp, b9, g9, GO, f10.kp, b10, g10, GFi, f12.kp, b12, g12, GNu, f13.kp, b13, g13, GFo, f15.kp, b15, g15, GLe, f7.kp, b7, g7, GUn, f11.kp, b11, g11, GRt, f6.kp, b6, g6, nLe, m5, m2, m8, m0, m10, m4, m12⟩
    exact ok_law f17 ⟨g8, g16, m0, m2, m3, m4⟩ GP f8.kp b8 GRi f16.kp b16
end Bf
open PySem PySem.W PySem.Calls PyProof.Rows
set_option maxHeartbeats 0 in
theorem PySem.Challenge.cw_beatferry_k32_letters_round_by_round_holds : PySem.Challenge.rw_beatferry_k32_letters_round_by_round.Holds := by
  w_on; o_law
  refine HandSHeadRun.head_any (r := OpenLaw.row PySem.Challenge.rw_beatferry_k32_letters_round_by_round) (q := view (OpenLaw.row PySem.Challenge.rw_beatferry_k32_letters_round_by_round).prog [25]) (H := Bf.hkL) (ob := Bf.obL) (M := 5000) (loose := ["NotSo", "NoInverse", "TooFew", "raised", "inverse", "value", "values", "with_root", "through", "row_through", "letters", "_law_urn", "_law_take", "_law_of", "_law_unlike", "_law_field", "_law_numbers", "_law_comes_to", "_law_first_ones", "_law_right"]) (d := HandSHeadRun.topDef (OpenLaw.row PySem.Challenge.rw_beatferry_k32_letters_round_by_round).prog 25) (kwd := []) Bf.obL_eq
    (by kernel_rfl) (fun s => by kernel_rfl) Bf.runL (by kernel_rfl) (by kernel_rfl) (by kernel_rfl) (by rfl) (by first | assumption | decide +kernel) (by decide +kernel) ⟨rfl, rfl, rfl, rfl, rfl, by decide +kernel⟩ ?hw ?hc
  case hw => w_witness2
  case hc =>
    refine Bf.walkTG (l := PySem.Challenge.rw_beatferry_k32_letters_round_by_round) (n := 63) (k := 6) (x := "_law_script") rfl (by decide) (by kernel_rfl) ⟨rfl, by decide, by decide⟩ ?F
    intro w mg fa h Y G hmg0
    obtain ⟨K, KX, c⟩ := Y
    have hmg : mg ("law" : PySem.Str) = some (.ref fa) := by
      have e : (HandSHeadRun.topDef (OpenLaw.row PySem.Challenge.rw_beatferry_k32_letters_round_by_round).prog 25).name = ("law" : PySem.Str) := by kernel_rfl
      rw [← e]
      exact hmg0
    obtain ⟨fd, cs, sp, h1, h2, h3, h4, h5, h6⟩ := Bf.facts (l := PySem.Challenge.rw_beatferry_k32_letters_round_by_round) (w := w) KX G hmg c; exact ⟨K, fd, cs, sp, KX, h1, h2, h3, h4, h5, h6⟩
