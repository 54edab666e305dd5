import PyProof.Rows.All
import Wide.All
import OpenK.AllK
import Wide.FinOn
import HandS.ForMost
import HandS.More
import HandS.Wide
import HandS.WideBits
import HandS.TupAny
import HandS.TupMul
import HandS.Style
import HandS.RaiseMore
import KE.SortKeyHeap
import KE.KLam
import HandS.SortKw
import HandS.Lambda
import HandS.Nested
import HandS.EndTab
import HandS.Conv
import HandS.Defaults
import HandS.Zip
import HandS.Walk
import HandS.Comp
import HandS.Rev
import HandS.Iter
import KE.GoesMore
import HandS.Flow
import HandS.SortInts
import HandS.RevRange
import HandS.SetFor
import HandS.Strs
import HandS.IsInst
import HandS.TupLe
import KE.DataMinKey
import HandS.Small
import KE.GoesEnum
import KE.KSliceW
import HandS.List
import HandS.TupSets
import HandS.SortOrd
import HandS.DictComp
import HandS.Dict
import HandS.SetKeys
import PyProof.DictMoreH
import HandS.Head0
import HandS.Head1
import HandS.Head2
import HandS.HeadEnd
import HandS.HeadHook1
import HandS.HeadHook2
import HandS.HeadHook4
import PySem.Challenge.RW_beatferry_k26_bounds_and_names
set_option Elab.async false
set_option linter.all false
set_option maxRecDepth 100000
set_option maxHeartbeats 4000000
namespace Bf
open PySem PySem.Spec PyProof.Rows L2

/-! ### defs whose calls stand under no repr -/
structure FnG (P : Program) (w : World) (K : PySem.W.Frag) (mg : Str → Option Value) (base : Heap) (k : Nat) (f : Addr) (fd : FuncData) (ps : List Str) (sp : Sp) : Prop where
  len : ∀ vs H Q E, sp vs H Q E → vs.length = ps.length
  go : ∀ (A : Around) (outer : List Env) (s : Shared) (H : Hp) (args : Args) (us : List Value) (vs : List V) (Q : VK) (E : XK), A.guards = some [] → Room k A →
    Env0 P w K mg base A outer s H → BindsTo s fd args (ps.zip us) → Vals vs us → sp vs H Q E → codeAny (model P w) A (.call (.ref f) args) (CR CX0 outer P w H s Q E) s

theorem fnG_of {P : Program} {w : World} {K : PySem.W.Frag} {mg : Str → Option Value} {base : Heap} {x qual : Str} {st : Stmt} {f : Addr} {fd : FuncData} {N ps : List Str} {k : Nat} {sp : Sp}
    (F : Fun K x qual st f fd) (S : FnScope N ps (defScope st)) (len : ∀ vs H Q E, sp vs H Q E → vs.length = ps.length)
    (body : ∀ (cdv : Value) (A : Around) (outer : List Env) (s : Shared) (H : Hp) (vs : List V) (Q : VK) (E : XK), (A.deeper (envOfC qual (defScope st) s.heap.objs.size f cdv)).guards = some [] →
      Room k (A.deeper (envOfC qual (defScope st) s.heap.objs.size f cdv)) → sp vs H Q E →
      ∃ t, PSs (cxOf CX0 P w K mg base N qual (defScope st) f cdv A outer s H E).nox (defBody st) t ∧ t { nx := fun _ H' => Q .non H', rt := Q } (start N vs) H) : FnG P w K mg base (k + 1) f fd ps sp := by
  obtain ⟨oc, od, kV, doc, pm, an, cdv, ct, osl, rfl, lk, hcd⟩ := F.ex
  refine ⟨len, fun B out s G args us vs Q E gd rm en hb rl hs => ?_⟩
  have ln := len _ _ _ _ hs
  have kx : K.In s.heap := en.mod.kin.keeps fun b o e => (en.bs b o e).1
  have nl : s.heap.NoLimit := en.mod.nolimit.keeps fun b o e => (en.bs b o e).1
  have kinds : ∀ y ∈ ps.zip us, (defScope st).names.lookup y.1 = some .local ∨
      ((defScope st).names.lookup y.1 = some .cell ∧ ((cellsFrom (s.heap.objs.size + 1) (defScope st).names []).lookup y.1).isSome = true) := fun ⟨n, v⟩ hy =>
    (S.par n (List.of_mem_zip hy).1).elim (fun q => .inl q) fun q => .inr ⟨q, PySem.W.cellsFrom_some _ _ _ (.inl q)⟩
  refine codeAny_call_function rm.depth (kx _ _ lk) rfl S.co S.gen rfl (PySem.W.codeRec_of kx hcd) (hb _ _ _ _ ?_)
  refine wpAny_newFunctionEnv_cells S.kind kinds fun env he s1 x1 => ?_
  subst he
  refine ⟨nl.keeps x1.toInCall.keep, codeAny_func ?_⟩
  obtain ⟨t, ht, hq⟩ := body cdv B out s G vs Q E gd (rm.deeper _) hs
  have J0 : Inv (cxOf CX0 P w K mg base N qual (defScope st) f cdv B out s G E) [] (start N vs) G s1 := inv_start S rm.hd en ln rl x1
  refine wpAny_mono (ht.nox.run [] s1 (start N vs) G _ J0 hq) (fun fl s' hs' => ?_) fun e s' hs' => hs'
  cases fl with
  | ret u => exact let ⟨v, _, H', J, rv, q⟩ := hs'; ⟨v, H', J.os, J.bare, J.base, J.hok, rv, q⟩
  | next => exact let ⟨_, H', J, q⟩ := hs'; ⟨V.non, H', J.os, J.bare, J.base, J.hok, rfl, q⟩
  | brk => exact let ⟨_, _, _, q⟩ := hs'; False.elim q
  | cont => exact let ⟨_, _, _, q⟩ := hs'; False.elim q

section
variable {X : Cx} {x : Str} {p pos : Pos} {e : Expr} {es : List Expr} {t : TA} {k : Nat} {f : Addr} {fd : FuncData} {ps : List Str} {sp : Sp} {ds : List Value} {dvs : List V} {E : XK}
theorem runG {pins : List (Addr × Obj)} {σ : L2.St} {H : Hp} {s : Shared} {Q : VK} {us : List Value} {vs : List V} (F : FnG X.prog X.w X.K X.mg X.base k f fd ps sp) (gd : X.A.guards = some []) (hr : Room k X.A) (hb : Binds X.K fd ps ds) (hd : Vals dvs ds)
    (I : Inv X pins σ H s) (r : Vals vs us) (h : sp (vs ++ dvs) H Q E) : wpAny (model X.prog X.w) X.A (call (.ref f) us) (EP X pins σ Q) X.xe s := by
  have rr : Vals (vs ++ dvs) (us ++ ds) := r.append hd
  have ll : (us ++ ds).length = ps.length := rr.length.symm.trans (F.len _ _ _ _ h)
  refine wpAny_call (codeAny_mono (F.go X.A X.stack s H ⟨us, []⟩ (us ++ ds) (vs ++ dvs) Q E gd hr I.env0 (hb s us I.kIn ll) rr h) fun z s' hq => ?_)
  match z, hq with
  | .error _, hq => exact hq.elim
  | .ok (.ret _), hq => exact I.after hq
  | .ok .next, hq => exact False.elim hq
  | .ok .brk, hq => exact False.elim hq
  | .ok .cont, hq => exact False.elim hq
theorem pe_callG (F : FnG X.prog X.w X.K X.mg X.base k f fd ps sp) (gd : X.A.guards = some []) (hr : Room k X.A) (hg : Gl X x) (hm : X.mg x = some (.ref f)) (hk : PySem.W.keepIn X.K (.ref f) = true) (hb : Binds X.K fd ps ds) (hd : Vals dvs ds)
    (ha : PA X (e :: es) t) (hdb : (x == ("__debug__" : Str)) = false := by decide) (he : starEach (e :: es) X.env = (false, eval e X.env) :: starEach es X.env := by rfl) (hpl : (backTo pos (starEach es X.env)).any (·.1) = false := by rfl) :
    PE X (.Call (.Name x p) (e :: es) [] pos) (tCall sp dvs E t) :=
  ⟨fun pins s σ H Q I h => wpAny_Call_Name_kw (ld_glob I hg hm (PySem.W.callWith_K (h₀ := X.base) I.ok.mod.kin hk
    (thn (ha.run pos pins s σ H _ I h) fun us s1 ⟨vs, H1, I1, r, q⟩ => ⟨I1.kIn, runG F gd hr hb hd I1 r q⟩) he hpl) hdb)⟩

/-! ### repr of data -/
theorem call_reprD (gd : X.A.guards = some []) (hu : X.A.units + 64 < cLine) : CallR X (.builtin "repr") (fun xs H Q => ∃ a d, xs = [.ref a] ∧ Dp X.K H (.ref a) d ∧ d.showable = true ∧ d.hasDict = false ∧ d.depth < 60 ∧ d.shown.length ≤ sizeLine ∧ Q (.str d.shown) H) := by
  intro pins s σ H xs us Q I r h
  obtain ⟨a, d, rfl, hd, h1, h2, h3, h4, q⟩ := h
  obtain ⟨u, rfl, ru⟩ := vals1 r
  obtain ⟨as, rd⟩ := Dp.reads I d _ u hd ru
  cases ru
  refine repr_of_reads' rd h1 (PyData.noDict_hsm h2) gd (by omega) (fun _ _ z => z) (fun h' u tk hk => ?_) h4
  exact ⟨.str d.shown, H, I.kept hk, ⟨u, rfl⟩, q⟩
theorem call_reprN : CallR X (.builtin "repr") (fun xs H Q => ∃ i, xs = [.int i] ∧ i.natAbs.log2 < 1920 ∧ Q (.str (toString i)) H) := by
  intro pins s σ H xs us Q I r h
  obtain ⟨i, rfl, hz, q⟩ := h
  obtain ⟨u, rfl, t, rfl⟩ := vals1 r
  exact PySem.P.repr_of_int hz ⟨.str (toString i), H, I.tok _, ⟨_, rfl⟩, q⟩

/-! ### calls by names alone -/
theorem pe_callK0 {CX : CXT} {kws : List Keyword} {tk : TA} {ks : List Str} {g : List Value → List Value → List Value} {gV : List V → List V → List V} (F : FnOk X.prog X.w X.K X.mg X.base CX k f fd ps sp) (hr : Room k X.A) (hg : Gl X x)
    (hm : X.mg x = some (.ref f)) (hk : PySem.W.keepIn X.K (.ref f) = true) (hb : KBinds X.K fd ps ks g gV) (hx : Passes CX X E) (hkw : PK X kws tk)
    (hall : (backToKw pos (keywordEach kws X.env)).all (·.1.isSome) = true := by rfl) (hks : (backToKw pos (keywordEach kws X.env)).filterMap (·.1) = ks := by rfl) (hdb : (x == ("__debug__" : Str)) = false := by decide)
    (hpl : ((backTo pos (starEach [] X.env)).any (·.1) || (backToKw pos (keywordEach kws X.env)).any (·.1.isNone)) = false := by rfl) : PE X (.Call (.Name x p) [] kws pos) (tCallK sp gV E tNil tk) := by
  refine ⟨fun pins s σ H Q I h => wpAny_Call_Name_kw (ld_glob I hg hm (PySem.W.callWith_KW0 (h₀ := X.base) I.ok.mod.kin hk hall ?_ hpl) hdb)⟩
  refine thn (hkw.run pos pins s σ H _ I h) fun ws s2 ⟨zs, H2, I2, rz, q2⟩ => ⟨I2.kIn, ?_⟩
  rw [hks]
  exact run_fnk F hr hb hx I2 .nil rz q2

/-! ### t[::-1], t a tuple -/
end
section
variable {prog : Program} {w : World} {A : Around} {E : Value → Shared → Prop} {s : Shared}
theorem back_adjust (n : Nat) : Builtin.Slice.sliceAdjust none none (-1) (n : Int) = ((n : Int) - 1, -1) := by
  unfold Builtin.Slice.sliceAdjust
  rfl
theorem back_places (n : Nat) : Builtin.Slice.slicePlaces ((n : Int) - 1) (-1) (-1) = n := by
  unfold Builtin.Slice.slicePlaces
  have h1 : ¬ ((-1 : Int) > 0) := by omega
  simp only [h1, if_false, Int.neg_neg, Int.ediv_one]
  split <;> omega
theorem back_pick (xs : Array Value) : ((List.range xs.size).filterMap fun (k : Nat) => xs[((xs.size : Int) - 1 + (k : Int) * (-1)).toNat]?).toArray = xs.toList.reverse.toArray := by
  have e : ((List.range xs.size).filterMap fun (k : Nat) => xs[((xs.size : Int) - 1 + (k : Int) * (-1)).toNat]?) = ((List.range xs.size).map fun k => xs.size - 1 - k).filterMap (xs[·]?) := by
    rw [List.filterMap_map]
    have h : ∀ l : List Nat, l.filterMap (fun (k : Nat) => xs[((xs.size : Int) - 1 + (k : Int) * (-1)).toNat]?) = l.filterMap ((fun x => xs[x]?) ∘ fun k => xs.size - 1 - k) := by
      intro l
      induction l with
      | nil => rfl
      | cons k l ih =>
        have ek : ((xs.size : Int) - 1 + (k : Int) * (-1)).toNat = xs.size - 1 - k := by omega
        simp only [List.filterMap_cons, ih, Function.comp, ek]
    exact h _
  rw [e, PySem.W.krv_range, List.filterMap_reverse, PySem.W.krv_all]
theorem back_applied {sl : Addr} {vl vu vs : Value} {n : Nat} {Q : Int × Int × Nat → Shared → Prop} (hs : s.heap.IsSliceOf sl vl vu vs) (pl : IsPart vl none) (pu : IsPart vu none) (pk : IsPart vs (some (-1)))
    (h : Q ((n : Int) - 1, -1, n) s) : wpAny (model prog w) A (Builtin.Slice.sliceApplied (.ref sl) (pure (n : Int))) Q E s := by
  obtain ⟨os, ho, _, hd⟩ := id hs
  unfold Builtin.Slice.sliceApplied Builtin.Slice.sliceFields
  refine wpAny_bind (wpAny_bind (wpAny_field ho hd (x := vl) rfl (wpAny_bind (wpAny_field ho hd (x := vu) rfl (wpAny_bind (wpAny_field ho hd (x := vs) rfl (wpAny_pure ?_)))))))
  refine wpAny_bind (HT.slicePart_ pk ?_)
  show wpAny _ _ (if ((-1 : Int) == 0) = true then _ else _) _ _ s
  rw [if_neg (by decide)]
  refine wpAny_bind (HT.slicePart_ pl (wpAny_bind (HT.slicePart_ pu (wpAny_bind (wpAny_pure ?_)))))
  show wpAny _ _ (match Builtin.Slice.sliceAdjust none none (-1) (n : Int) with | (lo, hi) => pure (lo, (-1 : Int), Builtin.Slice.slicePlaces lo hi (-1))) _ _ s
  rw [back_adjust n]
  show wpAny _ _ (pure ((n : Int) - 1, (-1 : Int), Builtin.Slice.slicePlaces ((n : Int) - 1) (-1) (-1))) _ _ s
  rw [back_places]
  exact wpAny_pure h
theorem getItem_tuple_back {t sl : Addr} {items : Array Value} {vl vu vs : Value} {Q : Value → Shared → Prop} (ht : IsTup s.heap t items) (hs : s.heap.IsSliceOf sl vl vu vs) (pl : IsPart vl none) (pu : IsPart vu none) (pk : IsPart vs (some (-1)))
    (h : Q (.ref s.heap.objs.size) { s with heap := s.heap.push { cls := .type "tuple", data := .seq items.toList.reverse.toArray } }) (hsz : items.size ≤ sizeLine) : wpAny (model prog w) A (getItem (.ref t) (.ref sl)) Q E s := by
  have hz : sizeOk (.seq items.toList.reverse.toArray) := by
    show items.toList.reverse.toArray.size ≤ sizeLine
    rw [List.size_toArray, List.length_reverse, Array.length_toList]
    exact hsz
  obtain ⟨os, ho, hcs, _⟩ := id hs
  have hT : s.TypeIs (.ref sl) "slice" := ⟨os, ho, hcs⟩
  unfold getItem
  try with_reducible refine wpAny_holding ?_
  first | refine wpAny_bind (wpAny_pure ?_) | skip
  refine wpAny_bind (wpAny_sequenceKey ht.typeIs (by decide) ?_)
  refine wpAny_bind (wpAny_callSpecial?_slot (name := Str.ofString "__getitem__") ht.typeIs PyProof.Rows.slot_tuple_getitem (wpAny_call_entry PyProof.Rows.slot_tuple_getitem ht.typeIs entry_tuple_getitem ?_ (args_tuple_getitem _ _)))
  show wpAny _ _ (Builtin.Tuple.tupleItemsOf (.ref t) >>= _) _ _ s
  refine wpAny_bind (tupleItemsOf_ ht ?_)
  refine wpAny_bind (wpAny_typeOf hT ?_)
  rw [if_pos (by decide)]
  refine wpAny_bind (back_applied hs pl pu pk ?_)
  have hno : ¬ ((((items.size : Int) - 1) == 0 && (-1 : Int) == 1 && items.size == items.size) = true) := by
    intro q
    rw [Bool.and_eq_true, Bool.and_eq_true] at q
    exact absurd (eq_of_beq q.1.2) (by decide)
  show wpAny _ _ (if (((items.size : Int) - 1) == 0 && (-1 : Int) == 1 && items.size == items.size) = true then _ else _) _ _ s
  rw [if_neg hno, back_pick]
  first
    | exact wpAny_bind (m := Builtin.Tuple.tupleExact _) (wpAny_newObj_type (wpAny_pure ⟨_, rfl, wpAny_pure h⟩) hz)
    | exact wpAny_bind (m := Builtin.Tuple.tupleExact _) (wpAny_newObj_type (wpAny_bind (wpAny_pure (wpAny_pure ⟨_, rfl, wpAny_pure h⟩))) hz)
    | exact wpAny_bind (wpAny_bind (m := Builtin.Tuple.tupleExact _) (wpAny_newObj_type (wpAny_pure (wpAny_pure ⟨_, rfl, wpAny_pure h⟩)) hz))
    | exact wpAny_bind (wpAny_bind (m := Builtin.Tuple.tupleExact _) (wpAny_newObj_type (wpAny_pure ⟨_, rfl, wpAny_pure h⟩) hz))
end
section
variable {X : Cx} {x : Str} {p pos : Pos} {e : Expr} {es : List Expr} {t : TA} {k : Nat} {f : Addr} {fd : FuncData} {ps : List Str} {sp : Sp} {ds : List Value} {dvs : List V} {E : XK}
def tRevT (K : PySem.W.Frag) (te : TE) : TE := fun σ H Q => te σ H fun x H1 => ∃ a xs, x = .ref a ∧ SqT K H1 a xs ∧ ∀ p, H1 p = none → Q (.ref p) (upd H1 p (.tup xs.reverse))
theorem pe_revT {te : TE} {k : Nat} {p1 p2 p3 : Pos} (he : PE X e te) : PE X (.Subscript e (.Slice none none (some (.UnaryOp .USub (.Constant (.int 1) k p1) p2)) p3) pos) (tRevT X.K te) := by
  refine ⟨fun pins s σ H Q I h => Subscript_ (thn (he.run pins s σ H _ I h) fun v s1 ⟨y, H1, I1, r1, a, xs, ey, hx, q⟩ => ?_)⟩
  subst ey
  cases r1
  have hst : PO X (some (.UnaryOp .USub (.Constant (.int 1) k p1) p2)) (tPart (tUn (rU fun i => .int (-i)) (tC (.int 1)))) := po_some (pe_un un_neg pe_int)
  refine wpAny_Slice (thn (po_none.run pins s1 σ H1 (fun o H2 => o = none ∧ H2 = H1) I1 ⟨rfl, rfl⟩) fun vl s2 ⟨l, H2, I2, pl, el, e2⟩ => ?_)
  subst el e2
  refine thn (po_none.run pins s2 σ H2 (fun o H3 => o = none ∧ H3 = H2) I2 ⟨rfl, rfl⟩) fun vu s3 ⟨u, H3, I3, pu, eu, e3⟩ => ?_
  subst eu e3
  refine thn (hst.run pins s3 σ H3 (fun o H4 => o = some (-1) ∧ H4 = H3) I3 ⟨1, rfl, -1, rfl, rfl, rfl⟩) fun vs s4 ⟨o, H4, I4, pk, eo, e4⟩ => ?_
  subst eo e4
  have J : Inv X pins σ H4 { s4 with heap := s4.heap.push { cls := .type "slice", data := .fields #[vl, vu, vs] } } := I4.kept (t' := s4.toks) fun b ob q => Heap.get?_push_of_some _ q
  obtain ⟨its, r, ht, hz⟩ := J.tuple hx
  show wpAny (model X.prog X.w) X.A (subscriptTail e (.Slice none none (some (.UnaryOp .USub (.Constant (.int 1) k p1) p2)) p3) (.ref a) (.ref s4.heap.objs.size)) (EP X pins σ Q) X.xe { s4 with heap := s4.heap.push { cls := .type "slice", data := .fields #[vl, vu, vs] } }
  refine tail_any (ops := [.ref a, .ref s4.heap.objs.size]) ht.typeIs (PyProof.Rows.slot_tuple_getitem.lookup) ?_ (by with_unfolding_all rfl)
  refine getItem_tuple_back ht (Heap.IsSliceOf.new _ vl vu vs) pl pu pk ?_ (by rw [List.size_toArray, ← r.length]; exact hz)
  refine ⟨.ref _, _, J.laid (t' := s4.toks) (o := .tup xs.reverse) (fun b ob q => Heap.get?_push_of_some _ q) (Nat.le_refl _) ?_, rfl, q _ (J.hok.fresh (Nat.le_refl _))⟩
  exact ⟨by rw [List.length_reverse]; exact hz, its.reverse, r.reverse, IsTup.new _ _⟩

/-! ### t * k, whatever t is -/
def rRepA (K : PySem.W.Frag) : R2 := fun x y H Q => ∃ l k xs, x = .ref l ∧ y = .int k ∧ SqT K H l xs ∧ 2 ≤ k ∧ k ≤ 1000 ∧ xs.length ≤ 1000 ∧
  (xs = [] → Q (.ref l) H) ∧ (xs ≠ [] → ∀ p, H p = none → Q (.ref p) (upd H p (.tup (List.replicate k.toNat xs).flatten)))
theorem tuple_mul0 (l : Addr) (items : Array Value) (n : Nat) (dd : Option Addr) (sl : Array (Option Value)) (x : Int) (u : Tok) (c0 : (decide (x < -(2 ^ 63)) || decide (x ≥ 2 ^ 63)) = false) (c1 : (items.isEmpty || x == 1) = true) :
    Meets (Builtin.«tuple.__mul__» ⟨[.ref l, .int x u], []⟩) (fun _ R s => s.heap.get? l = some { cls := .type "tuple", dict := dd, data := .seq items n, slots := sl } ∧ R (.ok (.ret (Value.ref l))) s) :=
  .of_wp fun prog w A R s h => by
    obtain ⟨hp, g, d, tk, os⟩ := s
    obtain ⟨hl, h⟩ := h
    have f1 := AutoSeq1.idx_int
    wp_walk using wpAny_loadPart' hl
    repeat (first
      | (refine wpAny_ite_false (decide_eq_false (by rw [c0]; exact Bool.false_ne_true)) ?_; wp_walk using wpAny_loadPart' hl)
      | (refine wpAny_ite_true (decide_eq_true c1) ?_; wp_walk using wpAny_loadPart' hl))
    exact ⟨_, rfl, h⟩
theorem op_repA : OpR X (binaryOp .Mult) (rRepA X.K) := by
  intro pins s σ H x y v u Q I rx ry h
  obtain ⟨l, k, xs, rfl, rfl, hT, h1, h2, hz, q0, q1⟩ := h
  by_cases hx : xs = []
  · subst hx
    cases rx
    obtain ⟨t, rfl⟩ := ry
    obtain ⟨its, r, ⟨⟨cls, dd, data, sl⟩, ho, hc, n, hd⟩, hs⟩ := I.tuple hT
    simp only at hc hd
    subst hc hd
    cases r
    have c0 : (decide (k < -(2 ^ 63)) || decide (k ≥ 2 ^ 63)) = false := by
      rw [decide_eq_false (by omega), decide_eq_false (by omega)] <;> rfl
    exact wpAny_binaryOp_repeat_ref (T := "tuple") (U := "int") (by decide) ⟨_, ho, rfl⟩ (fun s' => typeIs_int s' k t) noFill_tuple_mul F.fills_int_mul F.slot_int_rmul repeat_tuple F.slot_int_index.lookup
      (call_meets F.slot_int_rmul (typeIs_int s k t) F.entry_int_rmul (F.args_int_rmul_2 _ _) (int_rmul_tuple k t l ([] : List Value).toArray n dd sl)
        ⟨ho, rfl, ⟨_, ho, rfl⟩, call_meets F.slot_tuple_mul ⟨_, ho, rfl⟩ F.entry_tuple_mul (F.args_tuple_mul_2 _ _) (tuple_mul0 l ([] : List Value).toArray n dd sl k t c0 (by rfl)) ⟨ho, ⟨.ref l, H, I, rfl, q0 rfl⟩⟩⟩)
  · exact op_repT pins s σ H _ _ v u Q I rx ry ⟨l, k, xs, rfl, rfl, hT, hx, h1, h2, hz, q1 hx⟩
end
end Bf
namespace Bf
open PySem PySem.W PyProof.Rows
/-! ### sorted(t, key=f), f's calls keep all, the frames up to their slots -/
def KS (fs : List Addr) (h h' : Heap) : Prop := ∀ b o, h.get? b = some o → (b ∉ fs → h'.get? b = some o) ∧ ∃ sl, h'.get? b = some { o with slots := sl }
def SS (fs : List Addr) (s s' : Shared) : Prop := KS fs s.heap s'.heap ∧ s'.os = s.os ∧ AllBare s'.gens
theorem KS.trans {fs : List Addr} {h h' h'' : Heap} (x : KS fs h h') (y : KS fs h' h'') : KS fs h h'' := fun b o e => by
  obtain ⟨x1, sl, x2⟩ := x b o e
  refine ⟨fun n => (y b o (x1 n)).1 n, ?_⟩
  obtain ⟨_, sl2, y2⟩ := y b _ x2
  exact ⟨sl2, y2⟩
theorem KS.of {fs : List Addr} {h h' : Heap} (x : ∀ b o, h.get? b = some o → h'.get? b = some o) : KS fs h h' := fun b o e => ⟨fun _ => x b o e, o.slots, x b o e⟩
section
variable {prog : Program} {w : World} {A : Around} {E : Value → Shared → Prop} {s : Shared} {a kS : Addr} {b : Bool} {vs : List Value} {e e1 : Nat} {P : PySem.Fin → Shared → Prop} {kz : List Int} {fs : List Addr}
theorem ints_alike (kz : List Int) : AllAlike (kz.map PyData.int) := fun d hd d' hd' => by
  obtain ⟨i, _, rfl⟩ := List.mem_map.mp hd
  obtain ⟨j, _, rfl⟩ := List.mem_map.mp hd'
  rfl
theorem ints_sortable (kz : List Int) : Sortable (kz.map PyData.int) := .inr fun d hd => by
  obtain ⟨i, _, rfl⟩ := List.mem_map.mp hd
  exact ⟨(fun z => nomatch z), fun xs z => nomatch z⟩
theorem ints_each (g : Heap) {l : List Value} {ks : List Int} (hk : IntsAre l ks) : EachIs (fun v k => ∃ as, Reads g v k as) l (ks.map PyData.int) := by
  induction hk with
  | nil => exact .nil
  | cons n t _ ih => exact .cons ⟨_, Reads.int n t⟩ ih
theorem keyS_rest {f : Value} {s₀ : Shared} (k0 : SS fs s₀ s) (hkS : s₀.heap.get? kS = none) (ha0 : s₀.heap.get? a = none) (fk : kS ∉ fs) (fa : a ∉ fs) (nk : s.heap.get? kS = some (seqObj "list" #[] 0)) (na : s.heap.get? a = some (seqObj "list" #[] e1)) (hka : kS ≠ a)
    (hlen : kz.length = vs.length) (hZ : vs.length ≤ sizeLine) (hu : A.units + 1 < cLine)
    (turn : ∀ (i : Nat) (v : Value) (n : Int), vs[i]? = some v → kz[i]? = some n → ∀ s1 : Shared, SS fs s₀ s1 → wpAny (model prog w) A (call f [v]) (fun u s2 => (∃ t, u = .int n t) ∧ SS fs s1 s2) (fun _ _ => False) s1)
    (h : ∀ s2 out c, SS fs s₀ s2 → s2.heap.get? a = some (seqObj "list" (List.toArray out) c) → KeyedOut b (kz.map PyData.int) vs out → P (.done (.ret .none)) s2) :
    wpAny (model prog w) A (ksk_rest a f b vs.toArray e1 (.ref kS)) P E s := by
  unfold ksk_rest
  refine wpAny_bind (wpAny_rule ?_)
  first
    | rw [List.forIn_toArray]
    | (rw [← Array.forIn_toList]; simp only [List.toList_toArray])
    | rw [← Array.forIn_toList]
  refine wpAny_bind (ksk_fold (fun i z => ∃ kA c, SS fs s₀ z ∧ z.heap.get? kS = some (seqObj "list" kA c) ∧ z.heap.get? a = some (seqObj "list" #[] e1) ∧ IntsAre kA.toList (kz.take i)) vs 0 s ⟨#[], 0, k0, nk, na, by rw [List.take_zero]; exact .nil⟩ ?step ?done)
  case step =>
    rintro j x z hx ⟨kA, c, kp, nk', na', hk⟩
    simp only [Nat.zero_add] at hk ⊢
    have hj : j < vs.length := (List.getElem?_eq_some_iff.mp hx).1
    obtain ⟨n, hn⟩ : ∃ n, kz[j]? = some n := ⟨_, List.getElem?_eq_getElem (by omega)⟩
    have hz : kA.size ≤ vs.length := by
      have h1 := hk.length
      rw [Array.length_toList, List.length_take] at h1
      omega
    refine wpAny_bind (wpAny_attempt (wpAny_mono (turn j x n hx hn z kp) (fun v z2 he => ?_) fun _ _ hF => hF.elim))
    obtain ⟨⟨t, rfl⟩, g1, g2, g3⟩ := he
    try dsimp only
    have nk2 : z2.heap.get? kS = some (seqObj "list" kA c) := (g1 _ _ nk').1 fk
    have na2 : z2.heap.get? a = some (seqObj "list" #[] e1) := (g1 _ _ na').1 fa
    have s1 := Heap.SameBut.update z2.heap kS (Obj.mapSeq (·.push (.int n t)))
    obtain ⟨c2, hc2⟩ : ∃ c2, (z2.heap.update kS (Obj.mapSeq (·.push (.int n t)))).get? kS = some (seqObj "list" (kA.push (.int n t)) c2) := ⟨_, get?_update_seq nk2 (·.push (.int n t))⟩
    refine wpAny_bind (listUpdate_at nk2 rfl ?_ (Nat.le_trans hz hZ) (Nat.le_trans (Nat.le_of_eq (Array.size_push ..)) (Nat.succ_le_succ (Nat.le_trans hz hZ))))
    refine wpAny_pure ⟨rfl, kA.push (.int n t), c2, ⟨?_, g2.trans kp.2.1, g3⟩, hc2, (s1.2 a hka.symm).trans na2, ?_⟩
    · have q := kp.1.trans g1
      intro d o ed
      obtain ⟨q1, sl, q2⟩ := q d o ed
      have hd : d ≠ kS := fun z => by rw [z, hkS] at ed; cases ed
      exact ⟨fun m => (s1.2 d hd).trans (q1 m), sl, (s1.2 d hd).trans q2⟩
    · have ek : kz.take (j + 1) = kz.take j ++ [n] := by rw [List.take_add_one, hn]; simp
      have ea : (kA.push (Value.int n t)).toList = kA.toList ++ [Value.int n t] := by simp
      rw [ea, ek]
      exact ksk_snoc hk
  case done =>
    rintro z ⟨kA, c, kp, nk', na', hk⟩
    have e3 : kz.take (0 + vs.length) = kz := List.take_of_length_le (by omega)
    rw [e3] at hk
    have hk' : EachIs (fun v k => ∃ as, Reads z.heap v k as) kA.toList (kz.map PyData.int) := ints_each z.heap hk
    have hsz : kA.size = vs.length := by
      have h1 := hk.length
      rw [Array.length_toList] at h1
      omega
    try dsimp only
    refine wpAny_bind (listItems_at nk' rfl ?_)
    refine keyH_end (s := z) (κ := dataKind z.heap (kz.map PyData.int)) (h₁ := L2.hidT z.heap (fun d => if d = kS then some (.own 0) else none)) (fun d o hd ed => (L2.of_hidT ed).1) ?_ nk' na' hka
      (SortsAt.data (s := z) hk' (ints_alike kz) (ints_sortable kz) fun d hd => ?_) hsz hZ fun h3 tk3 c3 k3 n3 => h _ _ c3 ⟨?_, kp.2.1, kp.2.2⟩ n3 ⟨z.heap, kA.toList, ints_alike kz, rfl, hk'⟩
    · cases q : (L2.hidT z.heap (fun d => if d = kS then some (.own 0) else none)).get? kS with
      | none => rfl
      | some o =>
        have q2 := (L2.of_hidT q).2
        rw [if_pos rfl] at q2
        cases q2
    · obtain ⟨i, _, rfl⟩ := List.mem_map.mp hd
      show A.units + 0 < cLine
      omega
    · intro d o ed
      obtain ⟨q1, sl, q2⟩ := kp.1 d o ed
      have hd : d ≠ kS := fun z => by rw [z, hkS] at ed; cases ed
      have hda : d ≠ a := fun z => by rw [z, ha0] at ed; cases ed
      have up : ∀ o', z.heap.get? d = some o' → h3.get? d = some o' := fun o' e' => k3 d o' hda (L2.hidT_get e' (if_neg hd))
      exact ⟨fun m => up _ (q1 m), sl, up _ q2⟩
theorem keyS_tree {f : Value} {n : Nat} {s₀ : Shared} (k0 : SS fs s₀ s) (ha0 : s₀.heap.get? a = none) (hfs : ∀ d ∈ fs, d < s.heap.objs.size) (fa : a ∉ fs) (ho : s.heap.get? a = some (seqObj "list" vs.toArray n)) (hlen : kz.length = vs.length) (hZ : vs.length ≤ sizeLine) (hu : A.units + 1 < cLine)
    (turn : ∀ (i : Nat) (v : Value) (n : Int), vs[i]? = some v → kz[i]? = some n → ∀ s1 : Shared, SS fs s₀ s1 → wpAny (model prog w) A (call f [v]) (fun u s2 => (∃ t, u = .int n t) ∧ SS fs s1 s2) (fun _ _ => False) s1)
    (h : ∀ s2 out c, SS fs s₀ s2 → s2.heap.get? a = some (seqObj "list" (List.toArray out) c) → KeyedOut b (kz.map PyData.int) vs out → P (.done (.ret .none)) s2) : wpAny (model prog w) A (ksk_tree a f b) P E s := by
  have la : a < s.heap.objs.size := Heap.lt_size ho
  obtain ⟨e1, o1⟩ : ∃ e1, (s.heap.update a (Obj.mapSeq fun _ => (#[] : Array Value))).get? a = some (seqObj "list" #[] e1) := ⟨_, get?_update_seq ho fun _ => #[]⟩
  have zS : ((s.heap.update a (Obj.mapSeq fun _ => (#[] : Array Value))).push (seqObj "tuple" vs.toArray 0)).objs.size = s.heap.objs.size + 1 := by rw [size_push', Heap.size_update]
  have nS : s₀.heap.get? (s.heap.objs.size + 1) = none := by
    cases q : s₀.heap.get? (s.heap.objs.size + 1) with
    | none => rfl
    | some o =>
      obtain ⟨_, sl, q2⟩ := k0.1 _ _ q
      exact absurd (Heap.lt_size q2) (Nat.not_lt.mpr (Nat.le_succ _))
  unfold ksk_tree
  refine wpAny_bind (listItems_at ho rfl ?_)
  refine wpAny_bind (listUpdate_at ho rfl ?_ (by rw [List.size_toArray]; exact hZ) (Nat.zero_le _))
  refine wpAny_bind (seqEpoch_at o1 rfl ?_)
  refine wpAny_bind (wpAny_newTuple ?_ (by show vs.length ≤ _; exact hZ))
  refine wpAny_bind (wpAny_newList ?_ (Nat.zero_le _))
  refine wpAny_holding ?_
  refine keyS_rest (kz := kz) (fs := fs) (s₀ := s₀) (s := { s with heap := ((s.heap.update a (Obj.mapSeq fun _ => (#[] : Array Value))).push (seqObj "tuple" vs.toArray 0)).push (seqObj "list" #[] 0) })
    (kS := ((s.heap.update a (Obj.mapSeq fun _ => (#[] : Array Value))).push (seqObj "tuple" vs.toArray 0)).objs.size) ⟨?_, k0.2.1, k0.2.2⟩ (by rw [zS]; exact nS) ha0 (fun z => ?_) fa (Heap.get?_push_size _ rfl) (Heap.get?_push_of_some _ (Heap.get?_push_of_some _ o1))
    (by rw [zS]; exact Nat.ne_of_gt (Nat.lt_succ_of_lt la)) hlen hZ hu turn h
  · intro d o ed
    obtain ⟨q1, sl, q2⟩ := k0.1 d o ed
    have hd : d ≠ a := fun z => by rw [z, ha0] at ed; cases ed
    have up : ∀ o', s.heap.get? d = some o' → (((s.heap.update a (Obj.mapSeq fun _ => (#[] : Array Value))).push (seqObj "tuple" vs.toArray 0)).push (seqObj "list" #[] 0)).get? d = some o' := fun o' e' =>
      Heap.get?_push_of_some _ (Heap.get?_push_of_some _ ((Heap.get?_update_ne _ _ _ _ hd).trans e'))
    exact ⟨fun m => up _ (q1 m), sl, up _ q2⟩
  · have q := hfs _ z
    rw [zS] at q
    exact absurd q (Nat.not_lt.mpr (Nat.le_succ _))
theorem collect_tup {t : Addr} {Q : List Value → Shared → Prop} (ht : IsTup s.heap t vs.toArray) (h : Q vs { s with heap := (s.heap.push (seqObj "list" #[] 0)).update s.heap.objs.size (Obj.mapSeq (· ++ vs.toArray)) }) (hsz : vs.length ≤ sizeLine) :
    wpAny (model prog w) A (collect (.ref t)) Q E s := by
  obtain ⟨o, ho, hc, n, hd⟩ := id ht
  unfold collect
  refine wpAny_bind (wpAny_runValue (codeAny_builtin entry_proto_collect' ?_))
  show wpAny _ _ (do again (.builtin "list.__iadd__" ⟨[← newList [], .ref t], []⟩)) _ _ s
  refine wpAny_bind (wpAny_newList (wpAny_pure ⟨Code.quiet_builtin _ (by decide +kernel), codeAny_builtin entry_list_iadd' ?_⟩))
  show wpAny _ _ (Builtin.List.listExtendWith (.ref s.heap.objs.size) (.ref t) (.ref s.heap.objs.size)) _ _ { s with heap := s.heap.push (seqObj "list" #[] 0) }
  unfold Builtin.List.listExtendWith
  have o2 : (s.heap.push (seqObj "list" #[] 0)).get? t = some o := Heap.get?_push_of_some _ ho
  refine wpAny_bind (wpAny_typeOf (T := "tuple") ⟨o, o2, hc⟩ ?_)
  have hT : (Value.type "tuple" == Value.type "tuple") = true := by rfl
  rw [if_pos (by rw [hT]; simp)]
  refine wpAny_bind (listItems_at o2 hd ?_)
  refine wpAny_bind (listItems_at (xs := #[]) (n := 0) (Heap.get?_push_size _ rfl) rfl ?_)
  rw [if_neg (by simp)]
  refine wpAny_bind (listUpdate_at (xs := #[]) (n := 0) (Heap.get?_push_size _ rfl) rfl ?_ (Nat.zero_le _) (by show (#[] ++ vs.toArray).size ≤ sizeLine + 1; simp only [Array.size_append, List.size_toArray, List.length_nil]; omega))
  refine wpAny_pure ?_
  show wpAny (model prog w) A (do
      let x ← load s.heap.objs.size
      match x.data with
      | .seq xs _ => pure xs.toList
      | _ => unsupported "internal:collect") Q E { s with heap := (s.heap.push (seqObj "list" #[] 0)).update s.heap.objs.size (Obj.mapSeq (· ++ vs.toArray)) }
  refine wpAny_bind (wpAny_load (get?_update_seq (Heap.get?_push_size _ rfl) _) ?_)
  show wpAny _ _ (pure ((#[] : Array Value) ++ vs.toArray).toList) Q E _
  rw [show ((#[] : Array Value) ++ vs.toArray).toList = vs by simp]
  exact wpAny_pure h
theorem sortedT {t : Addr} {f : Value} {kw : List (Str × Value)} {Q : Value → Shared → Prop} (bare : AllBare s.gens) (hfs : ∀ d ∈ fs, d < s.heap.objs.size) (ht : IsTup s.heap t vs.toArray) (hlen : kz.length = vs.length) (hZ : vs.length ≤ sizeLine) (hu : A.units + 3 < cLine)
    (ha1 : argsOk "sorted" ⟨[.ref t], kw⟩) (ha2 : ∀ x, argsOk "list.sort" ⟨[.ref x], kw⟩) (hk : ∀ x, Builtin.«list.sort» ⟨[.ref x], kw⟩ = ksk_tree x f b)
    (turn : ∀ (i : Nat) (v : Value) (n : Int), vs[i]? = some v → kz[i]? = some n → ∀ s1 : Shared, SS fs s s1 → wpAny (model prog w) A.in1.in1 (call f [v]) (fun u s2 => (∃ t, u = .int n t) ∧ SS fs s1 s2) (fun _ _ => False) s1)
    (h : ∀ s2 out c, SS fs s s2 → s2.heap.get? (s.heap.objs.size + 1) = some (seqObj "list" (List.toArray out) c) → KeyedOut b (kz.map PyData.int) vs out → Q (.ref (s.heap.objs.size + 1)) s2) : wpAny (model prog w) A (call (.builtin "sorted") [.ref t] kw) Q E s := by
  refine call_function_entry_kw kind_sorted plain_sorted entry_sorted ha1 ?_
  unfold Builtin.«sorted»
  refine wpAny_bind (m := checkCount "sorted" 1 1 _) (wpAny_pure ?_)
  refine wpAny_bind (collect_tup ht ?_ hZ)
  refine wpAny_bind (wpAny_newList ?_ hZ)
  have z1 : ((s.heap.push (seqObj "list" #[] 0)).update s.heap.objs.size (Obj.mapSeq (· ++ vs.toArray))).objs.size = s.heap.objs.size + 1 := by rw [Heap.size_update, size_push']
  show wpAny _ _ _ _ _ { s with heap := copyHeap s.heap vs }
  rw [z1]
  refine wpAny_bind (wpAny_holding (wpAny_call_entry_kw slot_list_sort ⟨_, copyHeap_at s.heap vs, rfl⟩ entry_list_sort ?body (ha2 _)))
  case body =>
    show wpAny (model prog w) A.in1.in1 (Builtin.«list.sort» ⟨[.ref (s.heap.objs.size + 1)], kw⟩) _ _ _
    rw [hk]
    have fresh : s.heap.get? (s.heap.objs.size + 1) = none := Heap.get?_none_of_le (Nat.le_succ _)
    refine keyS_tree (kz := kz) (fs := fs) (s₀ := s) (s := { s with heap := copyHeap s.heap vs }) ⟨KS.of fun d o q => copyHeap_old q, rfl, bare⟩ fresh (fun d hd => ?_) (fun z => ?_) (copyHeap_at s.heap vs) hlen hZ (by show A.units + 1 + 1 + 1 < cLine; omega) turn fun s2 out c k3 n3 ko => ⟨_, rfl, ?_⟩
    · exact Nat.lt_trans (hfs d hd) (Nat.lt_trans (Nat.lt_succ_self _) (Heap.lt_size (copyHeap_at s.heap vs)))
    · exact absurd (hfs _ z) (Nat.not_lt.mpr (Nat.le_succ _))
    · exact wpAny_pure ⟨_, rfl, h s2 out c k3 n3 ko⟩
end
end Bf
namespace Bf
open PySem PySem.Spec PyProof.Rows L2 LamX NdefX
section
variable {X : Cx} {pins : List (Addr × Obj)} {σ : L2.St} {H : Hp} {s s1 : Shared}
/-- all is kept, the frames up to slots; a list is new at D, perhaps -/
theorem inv_SS {H' : Hp} (I : Inv X pins σ H s) (k : SS (frs X.stack) s s1) (h1 : ∀ b o, H b = some o → H' b = some o) (h2 : ∀ b, b < s.heap.objs.size → H b = none → H' b = none)
    (h3 : ∀ b o, H' b = some o → H b = some o ∨ ObjOk X.prog X.w H' s1.heap b o) : Inv X pins σ H' s1 := by
  obtain ⟨k1, k2, k3⟩ := k
  have un : Un (frs X.stack) [] H H' s.heap s1.heap := ⟨fun b o e n hb _ => (k1 b o e).1 hb, fun b o e n hb _ => (k1 b o e).2, fun b o e n _ => h2 b (Heap.lt_size e) n, fun b o e _ => let ⟨sl, q⟩ := (k1 b o e).2; ⟨_, q⟩, fun b _ e => h1 b _ e, fun b _ _ e => h1 b _ e, fun b ps e => ⟨#[], by rw [h1 b _ e]; simp⟩⟩
  have hok : HOk X.prog X.w H' s1.heap := fun a o e => by
    rcases h3 a o e with q | q
    · refine (I.hok a o q).stay (fun b u hb r => (k1 b u r).1 fun z => ?_) (fun b r => h1 b _ r) fun b xs r => h1 b _ r
      have n := I.stkFree b z
      rcases hb with hb | hb
      · rw [hb, q] at n; cases n
      · rw [hb] at n; cases n
    · exact q
  obtain ⟨hh, g, d, t, os'⟩ := s1
  obtain rfl : os' = s.os := k2
  exact I.call (h' := hh) (g' := g) (d' := d) (t' := t) (ch := []) un hok k3 (fun b z => absurd z (by simp))
theorem inv_SS0 (I : Inv X pins σ H s) (k : SS (frs X.stack) s s1) : Inv X pins σ H s1 := inv_SS I k (fun _ _ e => e) (fun _ _ n => n) fun _ _ e => .inl e
def Hn : Hp := fun _ => none
abbrev lamF (X : Cx) (params : Arguments) (scope : Scope) (c' : Addr) : NF := ⟨"<lambda>", X.env.qual ++ "<lambda>", params, [], scope, cloFrom X.env.cells scope.names [], c'⟩
theorem lam_call {params : Arguments} {body : Expr} {scope : Scope} {f c' : Addr} {pm ctv v : Value} {x : Str} {fr N : List Str} {js : List Nat} {k : Nat} {t : TE} {n m : Int} (I : Inv X pins σ H s)
    (hf : s.heap.get? f = some (PySem.W.kla_obj "<lambda>" (X.env.qual ++ "<lambda>") params body scope (cloFrom X.env.cells scope.names []) pm c' ctv)) (hfr : f ∉ frs X.stack) (hc : H c' = some (CodeO c' (X.env.qual ++ "<lambda>")))
    (S : NScope N [x] fr scope) (cp : X.Ok → Caps X (cloFrom X.env.cells scope.names []) fr js)
    (hbind : ∀ (q : Str) (cl : List (Str × Addr)) (pm cv ctv u : Value), bindArgs (PySem.W.kla_fn "<lambda>" q params body scope cl pm cv ctv) ⟨[u], []⟩ = pure [(x, u)]) (hr : Room (k + 3) X.A) (ks : SS (frs X.stack) s s1)
    (hbody : ∀ (A : Around) (outer : List Env) (z : Shared) (G : Hp), Room k (A.deeper (envF (lamF X params scope c') f z.heap.objs.size)) → PE (ncx CX0 X.prog X.w X.K X.mg X.base N (lamF X params scope c') f A outer z G E0) body t)
    (ht : ∀ Q : VK, Q (.int m) Hn → t (startF N [.int n] (js.map (slotAt σ))) Hn Q) (hv : ∃ t, v = .int n t) :
    wpAny (model X.prog X.w) X.A.in1.in1 (call (.ref f) [v]) (fun u s2 => (∃ t, u = .int m t) ∧ SS (frs X.stack) s1 s2) (fun _ _ => False) s1 := by
  have I1 := inv_SS0 I ks
  have of1 := (ks.1 f _ hf).1 hfr
  have en := I1.env0
  have e0 : Env0 X.prog X.w X.K X.mg X.base X.A.in1.in1 X.stack s1 Hn := ⟨en.frames, en.mod, fun b o q => ⟨(en.bs b o q).1, rfl⟩, en.bsz, en.funs, fun _ _ => rfl, (fun a o z => nomatch z), en.bare⟩
  have C0 := cells_of I1 (cp I1.ok)
  have C : CellsAt (cloFrom X.env.cells scope.names []) fr (js.map (slotAt σ)) s1.heap Hn := ⟨C0.len, fun y c e => ⟨rfl, (C0.all y c e).2⟩, C0.inj, C0.has⟩
  obtain ⟨⟨oc, vs, tt, hoc, hdc, hvc⟩, _, _⟩ := I1.hok c' _ hc
  have hr1 : Room (k + 1) X.A.in1.in1 := hr.in1.in1
  have rc : codeAny (model X.prog X.w) X.A.in1.in1 (.call (.ref f) ⟨[v], []⟩) (CR CX0 X.stack X.prog X.w Hn s1 (fun u _ => u = .int m) E0) s1 := by
    refine PySem.W.kla_callFunE hr1.depth of1 rfl S.co S.gen rfl ⟨c', oc, vs, tt, rfl, hoc, hdc, hvc⟩ ?_
    rw [hbind]
    refine wpAny_pure (wpAny_newFunctionEnv S.nocell (fun y hy => ?_) (fun h₁ hns hsb => ⟨I1.nolimit.fresh _ hsb, ?_⟩) S.kind)
    · have e : y = (x, v) := by simpa using hy
      rw [e]
      exact S.par x (by simp)
    · show codeAny _ _ (.expr body (envF (lamF X params scope c') f s1.heap.objs.size)) _ _
      have kp : ∀ b o, s1.heap.get? b = some o → h₁.get? b = some o := fun b o e => hsb.extBut b o (Nat.ne_of_lt (Heap.lt_size e)) (Heap.get?_push_of_some _ e)
      have J : Inv (ncx CX0 X.prog X.w X.K X.mg X.base N (lamF X params scope c') f X.A.in1.in1 X.stack s1 Hn E0) [] (startF N [.int n] (js.map (slotAt σ))) Hn { s1 with heap := h₁, toks := s1.toks + ([(x, v)] : List (Str × Value)).length } :=
        inv_startN (ps := [x]) (us := [v]) S hr1.hd e0 rfl (.cons hv .nil) C hns kp
      refine PySem.W.kla_codeExpr (wpAny_mono ((hbody _ _ s1 Hn (hr1.deeper _)).run [] _ _ Hn (fun u _ => u = .int m) J (ht (fun u _ => u = .int m) rfl)) (fun u z hq => ?_) fun e z hq => hq)
      obtain ⟨w', H', J', rv, q⟩ := hq
      exact ⟨w', H', J'.os, J'.bare, J'.base, J'.hok, rv, q⟩
  refine wpAny_call (codeAny_mono rc fun r z hq => ?_)
  match r, hq with
  | .error _, hq => exact hq.elim
  | .ok .next, hq => exact False.elim hq
  | .ok .brk, hq => exact False.elim hq
  | .ok .cont, hq => exact False.elim hq
  | .ok (.ret u), hq =>
    obtain ⟨u', H', e1, e2, un, _, rv, q⟩ := hq
    obtain rfl : u' = .int m := q
    exact ⟨rv, fun b o e => ⟨fun hb => un.keep b o e rfl hb (by simp), un.any e rfl (by simp)⟩, e1, e2⟩
/-! ### sorted(e, key=lambda x: ..) -/
def tSortLam (T : List (Addr × Str)) (K : PySem.W.Frag) (t : TE) (N : List Str) (js : List Nat) (te : TE) : TE := fun σ H Q => te σ H fun v H1 => ∃ (a : Addr) (ns : List Int) (g : Int → Int), [v] = [V.ref a] ∧ SqT K H1 a (ns.map V.int) ∧ Tabs T H1 ∧
  (∀ n ∈ ns, ∀ Q' : VK, Q' (.int (g n)) Hn → t (startF N [.int n] (js.map (slotAt σ))) Hn Q') ∧
  ∀ (H2 : Hp) (p : Addr) (ns' : List Int), ExtN H1 H2 → Tabs T H2 → H2 p = none → ns'.Perm ns → ns'.Pairwise (fun i j => g i ≤ g j) → Q (.ref p) (upd H2 p (.lst (ns'.map V.int)))
theorem ext_tup {K : PySem.W.Frag} {H1 H2 : Hp} {a : Addr} {xs : List V} (e : ExtN H1 H2) (h : SqT K H1 a xs) : SqT K H2 a xs := by
  rcases h with (h | ⟨o, h⟩) | h
  · exact .inl (.inl (e _ _ h (fun ps z => nomatch z)))
  · exact .inl (.inr ⟨o, e _ _ h (fun ps z => nomatch z)⟩)
  · exact .inr h
theorem each_ints : ∀ {us : List Value} {ns : List Int}, IntsAre us ns → PySem.W.EachIs (fun (v : Value) (n : Int) => ∃ t, v = .int n t) us ns
  | _, _, .nil => .nil
  | _, _, .cons n t r => .cons ⟨t, rfl⟩ (each_ints r)
theorem ints_eachV : ∀ {us : List Value} {ns : List Int}, PySem.W.EachIs (fun (v : Value) (n : Int) => ∃ t, v = .int n t) us ns → Vals (ns.map V.int) us
  | _, _, .nil => .nil
  | _, _, .cons r q => .cons r (ints_eachV q)
theorem int_le (g : Int → Int) : PySem.W.dataLe false (fun n => PyData.int (g n)) = fun i j => decide (g i ≤ g j) := by
  funext i j
  show (!PySem.W.dataLt (.int (g j)) (.int (g i))) = decide (g i ≤ g j)
  rw [PySem.W.dataLt_int]
  by_cases h : g i ≤ g j
  · rw [decide_eq_true h, decide_eq_false (by omega)]; rfl
  · rw [decide_eq_false h, decide_eq_true (by omega)]; rfl
theorem pe_sortLam {T : List (Addr × Str)} {c P : Addr} {e : Expr} {te t : TE} {params : Arguments} {body : Expr} {scope : Scope} {x : Str} {fr N : List Str} {js : List Nat} {k : Nat} {p pos lpos kpos : Pos} (ha : PA X [e] (tCons te tNil)) (hg : Gl X "sorted") (hm : X.mg "sorted" = none)
    (TB : TabB X.base X.mg c P) (hcode : X.env.code = .ref c) (hmT : (P, X.env.qual ++ "<lambda>") ∈ T) (hu : ∀ p ∈ T, p.1 = P → p.2 = X.env.qual ++ "<lambda>") (hdef : defaultsOf params X.env = ([], []))
    (S : NScope N [x] fr scope) (hfree : ∀ y ∈ scope.names, y.2 = .free → X.env.scope.names.lookup y.1 = some .cell ∨ X.env.scope.names.lookup y.1 = some .free) (cp : X.Ok → Caps X (cloFrom X.env.cells scope.names []) fr js)
    (hbind : ∀ (q : Str) (cl : List (Str × Addr)) (pm cv ctv u : Value), bindArgs (PySem.W.kla_fn "<lambda>" q params body scope cl pm cv ctv) ⟨[u], []⟩ = pure [(x, u)]) (hr : Room (k + 3) X.A)
    (hbody : ∀ (f c' : Addr) (A : Around) (outer : List Env) (z : Shared) (G : Hp), Room k (A.deeper (envF (lamF X params scope c') f z.heap.objs.size)) → PE (ncx CX0 X.prog X.w X.K X.mg X.base N (lamF X params scope c') f A outer z G E0) body t)
    (na : backTo pos (starEach [e] X.env) = (false, eval e X.env) :: backTo pos (starEach [] X.env) := by rfl) (hpl : (backTo pos (starEach [e] X.env)).any (·.1) = false := by rfl) :
    PE X (.Call (.Name "sorted" p) [e] [⟨some "key", .Lambda params body scope lpos, kpos⟩] pos) (tSortLam T X.K t N js te) := by
  refine ⟨fun pins s σ H Q I h => ?_⟩
  refine wpAny_Call_Name_kw (ld_blt I hg hm (show bootBuiltins "sorted" = some (.builtin "sorted") by decide +kernel) ?_ (by decide) (by decide))
  refine PyProof.Rows.callWith_kw (thn (ha.run pos pins s σ H (fun vs H1 => ∃ (a : Addr) (ns : List Int) (g : Int → Int), vs = [V.ref a] ∧ SqT X.K H1 a (ns.map V.int) ∧ Tabs T H1 ∧ (∀ n ∈ ns, ∀ Q' : VK, Q' (.int (g n)) Hn → t (startF N [.int n] (js.map (slotAt σ))) Hn Q') ∧
      ∀ (H2 : Hp) (p : Addr) (ns' : List Int), ExtN H1 H2 → Tabs T H2 → H2 p = none → ns'.Perm ns → ns'.Pairwise (fun i j => g i ≤ g j) → Q (.ref p) (upd H2 p (.lst (ns'.map V.int)))) I h) fun us s1 ⟨vs, H1, I1, r1, q1⟩ => ?_) na hpl (by rfl) (by rfl)
  obtain ⟨a, ns, g, ev, hT, tb, hk, q⟩ : ∃ (a : Addr) (ns : List Int) (g : Int → Int), vs = [.ref a] ∧ SqT X.K H1 a (ns.map V.int) ∧ Tabs T H1 ∧ (∀ n ∈ ns, ∀ Q' : VK, Q' (.int (g n)) Hn → t (startF N [.int n] (js.map (slotAt σ))) Hn Q') ∧
      ∀ (H2 : Hp) (p : Addr) (ns' : List Int), ExtN H1 H2 → Tabs T H2 → H2 p = none → ns'.Perm ns → ns'.Pairwise (fun i j => g i ≤ g j) → Q (.ref p) (upd H2 p (.lst (ns'.map V.int))) := q1
  subst ev
  rw [Vals.ref1 r1]
  show wpAny _ _ (evalAll ((do let v ← eval (.Lambda params body scope lpos) X.env; standAt pos; pure v) :: [])) _ _ s1
  refine wpAny_evalAll_cons (wpAny_bind (lam_make2 I1 TB hcode hmT hu tb hdef (fun y hy e => (hfree y hy e).elim (fun z => I1.ok.has _ (.inl z)) fun z => I1.ok.has _ (.inr z)) fun f c' pm ctv H2 s2 I2 eN T2 hf hfn hfr hco => wpAny_bind (wpAny_standAt (wpAny_pure (wpAny_evalAll_nil ?_)))))
  obtain ⟨its, rv, ht, hz⟩ := I2.tuple (ext_tup eN hT)
  have hI : IntsAre its ns := intsAre_of rv
  have hl : ns.length = its.length := by
    have := rv.length
    rw [List.length_map] at this
    exact this
  have hu0 := hr.un
  refine sortedT (fs := frs X.stack) (kz := ns.map g) (vs := its) (b := false) I2.bare (fun d hd => ?_) ht (by rw [List.length_map]; exact hl) (by rw [← rv.length]; exact hz) (by omega) (ksk_s1 _ _) (fun _ => ksk_l1 _ _) (fun y => ksk_t1 f y) (fun i v n hv hn s3 hs3 => ?_) (fun s3 out cc k3 n3 ko => ?_)
  · obtain ⟨_, o, ho, _⟩ := I2.stack.mem hd
    exact Heap.lt_size ho
  · rw [List.getElem?_map] at hn
    cases e : ns[i]? with
    | none => rw [e] at hn; cases hn
    | some m =>
      rw [e] at hn
      obtain rfl : g m = n := Option.some.inj hn
      have hvi : ∃ t, v = .int m t := by
        obtain ⟨u, hu1, hu2⟩ := Vals.get rv (show (ns.map V.int)[i]? = some (.int m) by rw [List.getElem?_map, e]; rfl)
        rw [hv] at hu1
        cases hu1
        exact hu2
      exact lam_call I2 hf hfr hco S cp hbind hr hs3 (fun A outer z G hrr => hbody f c' A outer z G hrr) (hk m (List.mem_of_getElem? e)) hvi
  · rw [List.map_map] at ko
    have eo := PySem.W.keyedOut_each (fun n => PyData.int (g n)) ko (each_ints hI)
    rw [int_le] at eo
    have vo := ints_eachV eo
    have nD : H2 (s2.heap.objs.size + 1) = none := I2.hok.fresh (Nat.le_succ _)
    have I3 : Inv X pins σ (upd H2 (s2.heap.objs.size + 1) (.lst ((ns.mergeSort fun i j => decide (g i ≤ g j)).map V.int))) s3 := by
      refine inv_SS I2 k3 (fun b o e => by rw [upd_ne (ne_of_none e nD)]; exact e) (fun b hb n => ?_) (fun b o e => ?_)
      · rw [upd_ne (Nat.ne_of_lt (Nat.lt_succ_of_lt hb))]
        exact n
      · by_cases eb : b = s2.heap.objs.size + 1
        · subst eb
          rw [upd_same] at e
          cases e
          refine .inr ⟨?_, out, cc, vo, n3⟩
          rw [List.length_map, (List.mergeSort_perm ns _).length_eq, hl, ← rv.length]
          exact hz
        · rw [upd_ne eb] at e
          exact .inl e
    refine ⟨.ref (s2.heap.objs.size + 1), _, I3, rfl, q H2 _ _ eN T2 nD (List.mergeSort_perm ns _) ?_⟩
    have := List.pairwise_mergeSort (le := fun i j => decide (g i ≤ g j)) (fun i j l h1 h2 => decide_eq_true (Int.le_trans (of_decide_eq_true h1) (of_decide_eq_true h2))) (fun i j => by
      rcases Int.le_total (g i) (g j) with h | h
      · simp [h]
      · simp [h]) ns
    exact this.imp fun h => of_decide_eq_true h
end
end Bf
namespace Bf
open PySem PySem.Spec PyProof.Rows L2
/-! ### bits of a number -/
def bl (n h : Nat) : List Nat := (List.range n).filter (fun k => h.testBit k)
theorem bl_succ (n h : Nat) : bl (n + 1) h = bl n h ++ (if h.testBit n = true then [n] else []) := by
  unfold bl
  rw [List.range_succ, List.filter_append]
  cases e : h.testBit n <;> simp [e]
theorem bl_ext {n h : Nat} (hh : h < 2 ^ n) : ∀ d, bl (n + d) h = bl n h
  | 0 => rfl
  | d + 1 => by
    have e : h.testBit (n + d) = false := Nat.testBit_lt_two_pow (Nat.lt_of_lt_of_le hh (Nat.pow_le_pow_right (by decide) (Nat.le_add_right n d)))
    rw [← Nat.add_assoc, bl_succ, bl_ext hh d, e]
    simp
theorem bl_eq {n m h : Nat} (hn : h < 2 ^ n) (hm : h < 2 ^ m) : bl n h = bl m h := by
  rcases Nat.le_total n m with l | l
  · obtain ⟨d, rfl⟩ := Nat.exists_eq_add_of_le l
    exact (bl_ext hn d).symm
  · obtain ⟨d, rfl⟩ := Nat.exists_eq_add_of_le l
    exact bl_ext hm d
theorem bl_len (n h : Nat) : (bl n h).length ≤ n := by
  have := List.length_filter_le (fun k => h.testBit k) (List.range n)
  rw [List.length_range] at this
  exact this
theorem bl_mem {n h i : Nat} (hn : h < 2 ^ n) : i ∈ bl n h ↔ h.testBit i = true := by
  unfold bl
  rw [List.mem_filter, List.mem_range]
  constructor
  · exact fun z => z.2
  · intro z
    refine ⟨Nat.lt_of_not_le fun l => ?_, z⟩
    rw [Nat.testBit_lt_two_pow (Nat.lt_of_lt_of_le hn (Nat.pow_le_pow_right (by decide) l))] at z
    cases z
theorem bl_lt {n h i : Nat} (hi : i ∈ bl n h) : i < n := List.mem_range.mp (List.mem_filter.mp hi).1
def fb (ks : List Nat) : Nat := ks.foldl (fun h k => h ||| 2 ^ k) 0
theorem fold_bit (i : Nat) : ∀ (ks : List Nat) (h : Nat), (ks.foldl (fun h k => h ||| 2 ^ k) h).testBit i = (h.testBit i || decide (i ∈ ks))
  | [], h => by simp
  | k :: ks, h => by
    rw [List.foldl_cons, fold_bit i ks, Nat.testBit_or, Nat.testBit_two_pow, Bool.or_assoc]
    congr 1
    by_cases e : i = k
    · subst e; simp
    · have e2 : ¬ k = i := fun z => e z.symm
      simp [e, e2]
theorem fb_eq {ks : List Nat} {h : Nat} (hm : ∀ i, i ∈ ks ↔ h.testBit i = true) : fb ks = h := by
  refine Nat.eq_of_testBit_eq fun i => ?_
  unfold fb
  rw [fold_bit, Nat.zero_testBit, Bool.false_or]
  cases e : h.testBit i with
  | true => exact decide_eq_true ((hm i).mpr e)
  | false => exact decide_eq_false fun z => by rw [(hm i).mp z] at e; cases e
theorem fb_take {ks : List Nat} {i k : Nat} (h : ks[i]? = some k) : fb (ks.take (i + 1)) = fb (ks.take i) ||| 2 ^ k := by
  unfold fb
  rw [List.take_add_one, h]
  simp [List.foldl_append]
theorem fb_lt {ks : List Nat} {n : Nat} (hk : ∀ k ∈ ks, k < n) : fb ks < 2 ^ n := by
  refine Nat.lt_pow_two_of_testBit _ fun i hi => ?_
  unfold fb
  rw [fold_bit, Nat.zero_testBit, Bool.false_or]
  exact decide_eq_false fun z => by have := hk i z; omega
theorem intBits_nat {h : Nat} : h < 2 ^ (Builtin.Int.intBits (h : Int)) := by
  unfold Builtin.Int.intBits
  by_cases e : h = 0
  · subst e
    decide
  · rw [if_neg (by simpa using e)]
    have := Nat.lt_log2_self (n := h)
    simpa using this
theorem intBits_le60 {h n : Nat} (hh : h < 2 ^ n) : Builtin.Int.intBits (h : Int) ≤ n := PyProof.Rows.intBits_le (by simpa using hh)
/-! ### numbers as data -/
def nv (ns : List Nat) : List V := ns.map fun (n : Nat) => V.int (n : Int)
def nd' (ns : List Nat) : List PyData := ns.map fun (n : Nat) => PyData.int (n : Int)
theorem nv_at {ns : List Nat} {i n : Nat} (h : ns[i]? = some n) : (nv ns)[i]? = some (.int (n : Int)) := by
  unfold nv
  rw [List.getElem?_map, h]
  rfl
theorem nv_len (ns : List Nat) : (nv ns).length = ns.length := List.length_map ..
theorem dp_nv {K : PySem.W.Frag} {H : Hp} : ∀ ns : List Nat, DpAll K H (nv ns) (nd' ns)
  | [] => .nil
  | n :: ns => .cons (.int _) (dp_nv ns)
theorem nd_show : ∀ ns : List Nat, (∀ n ∈ ns, n < 2 ^ 61) → PyData.showableAll (nd' ns) = true
  | [], _ => rfl
  | n :: ns, h => by
    have h1 : n < 2 ^ 61 := h n List.mem_cons_self
    have e : n.log2 < 1920 := by
      by_cases z : n = 0
      · subst z; decide
      · exact Nat.lt_of_lt_of_le ((Nat.log2_lt z).mpr h1) (by decide)
    show (decide ((n : Int).natAbs.log2 < 1920) && PyData.showableAll (nd' ns)) = true
    rw [nd_show ns fun m hm => h m (List.mem_cons_of_mem _ hm), Bool.and_true]
    exact decide_eq_true (by simpa using e)
theorem nd_dict : ∀ ns : List Nat, PyData.hasDictAll (nd' ns) = false
  | [] => rfl
  | n :: ns => nd_dict ns
theorem nd_depth : ∀ ns : List Nat, PyData.depthAll (nd' ns) ≤ 1
  | [] => by simp [nd', PyData.depthAll]
  | n :: ns => by
    have := nd_depth ns
    show max _ (PyData.depthAll (nd' ns)) ≤ 1
    simp only [PyData.depth]
    omega
theorem nd_leaves : ∀ ns : List Nat, (∀ n ∈ ns, n < 2 ^ 61) → PyData.leavesShortAll 64 (nd' ns) = true
  | [], _ => rfl
  | n :: ns, h => by
    have h1 : n < 2 ^ 61 := h n List.mem_cons_self
    show (decide ((PyData.shown (.int (n : Int))).length ≤ 64) && PyData.leavesShortAll 64 (nd' ns)) = true
    rw [nd_leaves ns fun m hm => h m (List.mem_cons_of_mem _ hm), Bool.and_true]
    have h2 : (n : Int) < 10 ^ 19 := by omega
    exact decide_eq_true (Nat.le_trans (toString_length_le (v := (n : Int)) (by omega) (k := 19) (by decide) h2) (by decide))
theorem nd_weight : ∀ ns : List Nat, (∀ n ∈ ns, n < 2 ^ 61) → PyData.weightAll (nd' ns) ≤ 63 * ns.length
  | [], _ => Nat.le_refl _
  | n :: ns, h => by
    have h1 : n < 2 ^ 61 := h n List.mem_cons_self
    have ih := nd_weight ns fun m hm => h m (List.mem_cons_of_mem _ hm)
    have e : PyData.weight (.int (n : Int)) ≤ 62 := by
      simp only [PyData.weight]
      by_cases z : n = 0
      · subst z; decide
      · have := (Nat.log2_lt z).mpr h1
        rw [if_neg (by simpa using z)]
        simp
        omega
    show PyData.weight (.int (n : Int)) + 1 + PyData.weightAll (nd' ns) ≤ 63 * (ns.length + 1)
    omega
theorem nd_len {ns : List Nat} (h : ∀ n ∈ ns, n < 2 ^ 61) (hl : ns.length ≤ 1000) : (PyData.tuple (nd' ns)).shown.length ≤ sizeLine := by
  have h1 := PyData.shown_le 64 (by decide) (.tuple (nd' ns)) (nd_leaves ns h)
  have h2 : PyData.weight (.tuple (nd' ns)) ≤ 63 * ns.length := nd_weight ns h
  rw [sizeLine_eq]
  have h3 : (64 + 2) * PyData.weight (.tuple (nd' ns)) ≤ 66 * (63 * 1000) := Nat.mul_le_mul (by decide) (by omega)
  omega
end Bf
namespace Bf
open PySem PySem.Spec PyProof.Rows L2
/-! ### round orders -/
def rb (q h j : Nat) : List Nat := ((List.range q).map fun i => (j + i) % q).filter fun k => h.testBit k
def ar (q j k : Nat) : Int := ((k : Int) - (j : Int)) % (q : Int)
theorem ar_at {q i : Nat} (j : Nat) (hi : i < q) : ar q j ((j + i) % q) = (i : Int) := by
  unfold ar
  rw [Int.natCast_emod, Int.emod_sub_emod, Int.natCast_add, show (j : Int) + i - j = i by omega]
  exact Int.emod_eq_of_lt (by omega) (by omega)
theorem at_of {q x : Nat} (j : Nat) (hx : x < q) : ∃ i, i < q ∧ (j + i) % q = x := by
  have hq : 0 < q := by omega
  refine ⟨(x + (q - j % q)) % q, Nat.mod_lt _ hq, ?_⟩
  have hj : j % q < q := Nat.mod_lt _ hq
  rw [Nat.add_mod, Nat.mod_mod, ← Nat.add_mod]
  have e : j + (x + (q - j % q)) = x + q * (j / q + 1) := by
    have := Nat.div_add_mod j q
    rw [Nat.mul_add, Nat.mul_one]
    omega
  rw [e, Nat.add_mul_mod_self_left]
  exact Nat.mod_eq_of_lt hx
theorem mem_rb {q h j x : Nat} : x ∈ rb q h j ↔ x < q ∧ h.testBit x = true := by
  unfold rb
  rw [List.mem_filter, List.mem_map]
  constructor
  · rintro ⟨⟨i, hi, rfl⟩, hb⟩
    have hi := List.mem_range.mp hi
    exact ⟨Nat.mod_lt _ (by omega), hb⟩
  · rintro ⟨hx, hb⟩
    obtain ⟨i, hi, e⟩ := at_of j hx
    exact ⟨⟨i, List.mem_range.mpr hi, e⟩, hb⟩
theorem rb_len (q h j : Nat) : (rb q h j).length ≤ q := by
  have h1 := List.length_filter_le (fun k => h.testBit k) ((List.range q).map fun i => (j + i) % q)
  rw [List.length_map, List.length_range] at h1
  exact h1
theorem rb_sorted (q h j : Nat) : (rb q h j).Pairwise (fun a b => ar q j a < ar q j b) := by
  unfold rb
  refine List.Pairwise.filter _ ?_
  rw [List.pairwise_map]
  refine (List.pairwise_lt_range).imp_of_mem fun {a b} ha hb hab => ?_
  rw [ar_at j (List.mem_range.mp ha), ar_at j (List.mem_range.mp hb)]
  omega
theorem ar_inj {q j a b : Nat} (ha : a < q) (hb : b < q) (h : ar q j a = ar q j b) : a = b := by
  obtain ⟨i, hi, rfl⟩ := at_of j ha
  obtain ⟨k, hk, rfl⟩ := at_of j hb
  rw [ar_at j hi, ar_at j hk] at h
  have : i = k := by omega
  rw [this]
theorem uniq_sorted {α : Type} {key : α → Int} : ∀ {l m : List α}, l.Pairwise (fun a b => key a < key b) → m.Pairwise (fun a b => key a < key b) → (∀ x, x ∈ l ↔ x ∈ m) → l = m
  | [], [], _, _, _ => rfl
  | [], b :: m, _, _, h => absurd ((h b).mpr List.mem_cons_self) List.not_mem_nil
  | a :: l, [], _, _, h => absurd ((h a).mp List.mem_cons_self) List.not_mem_nil
  | a :: l, b :: m, hl, hm, h => by
    obtain ⟨l1, l2⟩ := List.pairwise_cons.mp hl
    obtain ⟨m1, m2⟩ := List.pairwise_cons.mp hm
    have e : a = b := by
      rcases List.mem_cons.mp ((h a).mp List.mem_cons_self) with e | ea
      · exact e
      · rcases List.mem_cons.mp ((h b).mpr List.mem_cons_self) with e | eb
        · exact e.symm
        · have x1 := m1 a ea
          have x2 := l1 b eb
          omega
    subst e
    congr 1
    refine uniq_sorted l2 m2 fun x => ⟨fun hx => ?_, fun hx => ?_⟩
    · rcases List.mem_cons.mp ((h x).mp (List.mem_cons_of_mem _ hx)) with e | e
      · subst e
        exact absurd (l1 x hx) (Int.lt_irrefl _)
      · exact e
    · rcases List.mem_cons.mp ((h x).mpr (List.mem_cons_of_mem _ hx)) with e | e
      · subst e
        exact absurd (m1 x hx) (Int.lt_irrefl _)
      · exact e
theorem bl_nodup (n h : Nat) : (bl n h).Nodup := List.Pairwise.filter _ List.nodup_range
theorem rb_eq {q h j : Nat} {rs : List Nat} (hq : q ≤ 60) (hh : h < 2 ^ q) (hp : rs.Perm (bl 60 h)) (hs : rs.Pairwise fun a b => ar q j a ≤ ar q j b) : rs = rb q h j := by
  have h60 : h < 2 ^ 60 := Nat.lt_of_lt_of_le hh (Nat.pow_le_pow_right (by decide) hq)
  have hlt : ∀ x ∈ rs, x < q := fun x hx => by
    have hx2 := (bl_mem h60).mp (hp.mem_iff.mp hx)
    exact Nat.lt_of_not_le fun l => by
      rw [Nat.testBit_lt_two_pow (Nat.lt_of_lt_of_le hh (Nat.pow_le_pow_right (by decide) l))] at hx2
      cases hx2
  have nd : rs.Nodup := hp.nodup_iff.mpr (bl_nodup 60 h)
  have st : rs.Pairwise fun a b => ar q j a < ar q j b := by
    have := List.Pairwise.and hs nd
    refine this.imp_of_mem fun {a b} ha hb hab => ?_
    have hne : ar q j a ≠ ar q j b := fun e => hab.2 (ar_inj (hlt a ha) (hlt b hb) e)
    have := hab.1
    omega
  refine uniq_sorted st (rb_sorted q h j) fun x => ?_
  rw [hp.mem_iff, bl_mem h60, mem_rb]
  constructor
  · exact fun hb => ⟨hlt x (hp.mem_iff.mpr ((bl_mem h60).mpr hb)), hb⟩
  · exact fun z => z.2
theorem rb_mod {q h j : Nat} : rb q h (j % q) = rb q h j := by
  unfold rb
  congr 1
  refine List.map_congr_left fun i _ => ?_
  rw [Nat.add_mod, Nat.mod_mod, ← Nat.add_mod]
theorem rb_mods {q h j k : Nat} (e : j % q = k % q) : rb q h j = rb q h k := by
  rw [← rb_mod (j := j), e, rb_mod]
/-- a ring turned -/
def tw (q by' : Nat) (ks : List Nat) : List Nat := ks.map fun s => (s + by') % q
theorem turn_inj {q a b by' : Nat} (ha : a < q) (hb : b < q) (h : (a + by') % q = (b + by') % q) : a = b := by
  have h1 : ar q by' ((by' + a) % q) = a := ar_at by' ha
  have h2 : ar q by' ((by' + b) % q) = b := ar_at by' hb
  rw [Nat.add_comm by' a, h, Nat.add_comm b by', h2] at h1
  omega
theorem twin_bit {q one by' x : Nat} (hq : q ≤ 60) (hh : one < 2 ^ q) (hx : x < q) : (fb (tw q by' (bl 60 one))).testBit ((x + by') % q) = one.testBit x := by
  have h60 : one < 2 ^ 60 := Nat.lt_of_lt_of_le hh (Nat.pow_le_pow_right (by decide) hq)
  unfold fb
  rw [fold_bit, Nat.zero_testBit, Bool.false_or]
  cases e : one.testBit x with
  | true => exact decide_eq_true (List.mem_map.mpr ⟨x, (bl_mem h60).mpr e, rfl⟩)
  | false =>
    refine decide_eq_false fun z => ?_
    obtain ⟨y, hy, ey⟩ := List.mem_map.mp z
    have hy2 := (bl_mem h60).mp hy
    have hyq : y < q := Nat.lt_of_not_le fun l => by
      rw [Nat.testBit_lt_two_pow (Nat.lt_of_lt_of_le hh (Nat.pow_le_pow_right (by decide) l))] at hy2
      cases hy2
    rw [turn_inj hyq hx ey, e] at hy2
    cases hy2
theorem twin_lt {q one by' : Nat} (hq : 0 < q) : fb (tw q by' (bl 60 one)) < 2 ^ q := fb_lt fun k hk => by
  obtain ⟨y, _, rfl⟩ := List.mem_map.mp hk
  exact Nat.mod_lt _ hq
theorem rb_turn {q one by' s : Nat} (hq0 : 0 < q) (hq : q ≤ 60) (hh : one < 2 ^ q) : rb q (fb (tw q by' (bl 60 one))) (s + by') = tw q by' (rb q one s) := by
  unfold rb tw
  have e : (List.range q).map (fun i => (s + by' + i) % q) = ((List.range q).map fun i => (s + i) % q).map fun k => (k + by') % q := by
    rw [List.map_map]
    refine List.map_congr_left fun i _ => ?_
    show (s + by' + i) % q = ((s + i) % q + by') % q
    rw [Nat.mod_add_mod]
    congr 1
    omega
  rw [e, List.filter_map]
  congr 1
  refine List.filter_congr fun x hx => ?_
  obtain ⟨i, _, rfl⟩ := List.mem_map.mp hx
  exact twin_bit hq hh (Nat.mod_lt _ hq0)
end Bf
namespace Bf
open PySem PySem.Spec PyProof.Rows L2
/-! ### heaps -/
def Keeps (a : Addr) (H H' : Hp) : Prop := ∀ b o, b ≠ a → H b = some o → H' b = some o
theorem Keeps.refl (a : Addr) (H : Hp) : Keeps a H H := fun _ _ _ h => h
theorem Keeps.trans {a : Addr} {H H1 H2 : Hp} (x : Keeps a H H1) (y : Keeps a H1 H2) : Keeps a H H2 := fun b o n h => y b o n (x b o n h)
theorem Keeps.new {a p : Addr} {H H1 : Hp} {o : HO} (x : Keeps a H H1) (h : H1 p = none) : Keeps a H (upd H1 p o) := fun b u n e => by
  have e1 := x b u n e
  rw [upd_ne (ne_of_none e1 h)]
  exact e1
theorem Keeps.at {a : Addr} {H H1 : Hp} {o : HO} (x : Keeps a H H1) : Keeps a H (upd H1 a o) := fun b u n e => by
  rw [upd_ne n]
  exact x b u n e
theorem Keeps.of_same {a : Addr} {H H1 : Hp} (x : Same H H1) : Keeps a H H1 := fun b u _ e => x b u e
theorem same_new {H H1 : Hp} {p : Addr} {o : HO} (x : Same H H1) (h : H1 p = none) : Same H (upd H1 p o) := fun b u e => by
  have e1 := x b u e
  rw [upd_ne (ne_of_none e1 h)]
  exact e1
/-- an expression that gives v, the heap as it was -/
def Gives (t : TE) (σ : L2.St) (H : Hp) (v : V) : Prop := ∀ Q : VK, Q v H → t σ H Q
theorem rd_ifI {tt : TT} {ta tb : TE} {σ : L2.St} {H : Hp} {Q : VK} (b : Bool) (P : Int → Prop) (h0 : ∀ Q' : Bool → Hp → Prop, Q' b H → tt σ H Q') (h1 : b = true → ∃ c : Int, P c ∧ Gives ta σ H (.int c)) (h2 : b = false → ∃ c : Int, P c ∧ Gives tb σ H (.int c))
    (h : ∀ c : Int, P c → Q (.int c) H) : tIf tt ta tb σ H Q := by
  refine h0 _ ?_
  cases b with
  | true => obtain ⟨c, hp, hc⟩ := h1 rfl; exact iteT (hc _ (h c hp))
  | false => obtain ⟨c, hp, hc⟩ := h2 rfl; exact iteF (hc _ (h c hp))
/-- the pot: three numbers at a; n counts what was drawn -/
def Pot (H : Hp) (a : Addr) (n : Nat) : Prop := ∃ x y z : Int, H a = some (.lst [.int x, .int y, .int z]) ∧ 0 ≤ x ∧ 0 ≤ y ∧ y < 4611686018427387904 ∧ 0 ≤ z ∧ z ≤ n
theorem Pot.up {H : Hp} {a : Addr} {n m : Nat} (h : Pot H a n) (l : n ≤ m) : Pot H a m := let ⟨x, y, z, h1, h2, h3, h4, h5, h6⟩ := h; ⟨x, y, z, h1, h2, h3, h4, h5, by omega⟩
theorem Pot.new {H : Hp} {a p : Addr} {n : Nat} {o : HO} (h : Pot H a n) (hp : H p = none) : Pot (upd H p o) a n := let ⟨x, y, z, h1, h2⟩ := h; ⟨x, y, z, by rw [upd_ne (ne_of_none h1 hp)]; exact h1, h2⟩
theorem Pot.same {H H' : Hp} {a : Addr} {n : Nat} (h : Pot H a n) (s : Same H H') : Pot H' a n := let ⟨x, y, z, h1, h2⟩ := h; ⟨x, y, z, s _ _ h1, h2⟩

theorem primes4 (n : Int) (h0 : 0 ≤ n) (h : n < 4) : ∃ v : Int, atI [V.int 2305843009213693951, .int 999999999989, .int 1000000000039, .int 67280421310721] n = some (.int v) ∧ 0 < v := by
  obtain ⟨m, rfl⟩ := Int.eq_ofNat_of_zero_le h0
  match m, h with
  | 0, _ => exact ⟨_, rfl, by decide⟩
  | 1, _ => exact ⟨_, rfl, by decide⟩
  | 2, _ => exact ⟨_, rfl, by decide⟩
  | 3, _ => exact ⟨_, rfl, by decide⟩
theorem nat_of {i : Int} {n : Nat} (h0 : 0 ≤ i) (h : i < n) : ∃ r : Nat, i = (r : Int) ∧ r < n := ⟨i.toNat, by omega, by omega⟩
/-! ### numbers that are not negative -/
theorem op_orN {X : Cx} : OpR X (binaryOp .BitOr) (fun x y H Q => ∃ n m : Nat, x = .int (n : Int) ∧ y = .int (m : Int) ∧ Q (.int ((n ||| m : Nat) : Int)) H) := by
  intro pins s σ H x y v u Q I rx ry h
  obtain ⟨n, m, rfl, rfl, q⟩ := h
  refine op_or pins s σ H _ _ v u Q I rx ry ⟨(n : Int), (m : Int), rfl, rfl, ?_⟩
  show Q (.int (Builtin.bitOr (n : Int) (m : Int))) H
  rw [bitOr_nn (Int.natCast_nonneg n) (Int.natCast_nonneg m)]
  exact q
theorem op_bit {X : Cx} : OpR X (binaryOp .LShift) (fun x y H Q => ∃ k : Nat, x = .int 1 ∧ y = .int (k : Int) ∧ k ≤ 134217727 ∧ Q (.int ((2 ^ k : Nat) : Int)) H) := by
  intro pins s σ H x y v u Q I rx ry h
  obtain ⟨k, rfl, rfl, hk, q⟩ := h
  refine op_oneShl pins s σ H _ _ v u Q I rx ry ⟨k, rfl, rfl, hk, ?_⟩
  rw [Int.natCast_pow] at q
  exact q
theorem op_shrNN {X : Cx} : OpR X (binaryOp .RShift) (fun x y H Q => ∃ n m : Nat, x = .int (n : Int) ∧ y = .int (m : Int) ∧ Q (.int ((n / 2 ^ m : Nat) : Int)) H) := by
  intro pins s σ H x y v u Q I rx ry h
  obtain ⟨n, m, rfl, rfl, q⟩ := h
  refine op_shrN pins s σ H _ _ v u Q I rx ry ⟨(n : Int), m, rfl, rfl, ?_⟩
  rw [Int.natCast_ediv, Int.natCast_pow] at q
  exact q
theorem iop_orN {X : Cx} : OpR X (inplaceOp .BitOr) (fun x y H Q => ∃ n m : Nat, x = .int (n : Int) ∧ y = .int (m : Int) ∧ Q (.int ((n ||| m : Nat) : Int)) H) := by
  intro pins s σ H x y v u Q I rx ry h
  obtain ⟨n, m, rfl, rfl, q⟩ := h
  refine iop_or pins s σ H _ _ v u Q I rx ry ⟨(n : Int), (m : Int), rfl, rfl, ?_⟩
  show Q (.int (Builtin.bitOr (n : Int) (m : Int))) H
  rw [bitOr_nn (Int.natCast_nonneg n) (Int.natCast_nonneg m)]
  exact q
section
variable {K : PySem.W.Frag} {f : Addr} {fd : FuncData}
/-! ### tuples that expressions give -/
theorem sameT {H H' : Hp} {a : Addr} {xs : List V} (e : Same H H') (h : SqT K H a xs) : SqT K H' a xs := by
  rcases h with (h | ⟨o, h⟩) | h
  · exact .inl (.inl (e _ _ h))
  · exact .inl (.inr ⟨o, e _ _ h⟩)
  · exact .inr h
def GT (K : PySem.W.Frag) (t : TE) (σ : L2.St) (H : Hp) (vs : List V) : Prop := ∀ H1, Same H H1 → ∀ Q : VK, (∀ H2 x, Same H1 H2 → SqT K H2 x vs → Q (.ref x) H2) → t σ H1 Q
theorem gt_var {i : Nat} {σ : L2.St} {H : Hp} {b : Addr} {vs : List V} (h : SqT K H b vs) (hi : σ[i]? = some (some (.ref b))) : GT K (tVar i) σ H vs := fun H1 s Q q => ⟨_, hi, q H1 b (Same.refl _) (sameT s h)⟩
theorem gt_rev {te : TE} {σ : L2.St} {H : Hp} {vs : List V} (h : GT K te σ H vs) : GT K (tRevT K te) σ H vs.reverse := fun H1 s Q q => h H1 s _ fun H2 x s2 hx =>
  ⟨x, vs, rfl, hx, fun p np => q _ p (same_new s2 np) (.inl (.inl upd_same))⟩
theorem gt_tup {te : TE} {σ : L2.St} {H : Hp} {i : Nat} {b : Addr} {vs : List V} (h : SqL K H b vs) (hi : σ[i]? = some (some (.ref b))) :
    GT K (tCB (fun xs H Q => ∃ p ys, xs = [.ref p] ∧ ((SqL K H p ys ∧ ∀ l, H l = none → Q (.ref l) (upd H l (.tup ys))) ∨ (SqT K H p ys ∧ Q (.ref p) H))) (tCons (tVar i) tNil)) σ H vs := fun H1 s Q q =>
  ⟨_, hi, b, vs, rfl, .inl ⟨s.seq h, fun p np => q _ p (same_new (Same.refl _) np) (.inl (.inl upd_same))⟩⟩
theorem gt_cut {te : TE} {σ : L2.St} {H : Hp} {vs : List V} {n : Nat} (h : GT K te σ H vs) : GT K (tSl (rSlA K) te tNoPart (tPart (tC (.int (n : Int))))) σ H (vs.take n) := fun H1 s Q q => h H1 s _ fun H2 x s2 hx => by
  refine ⟨_, rfl, x, vs, rfl, hx, fun w => ?_, fun w p np => ?_⟩
  · have e : vs.take n = vs := List.take_of_length_le (by
      have := w.2
      rw [HT.sIx_nat] at this
      omega)
    exact q H2 x s2 (by rw [e]; exact hx)
  · have e : cutV vs none (some (n : Int)) = vs.take n := by
      unfold cutV
      rw [HT.sIx_none, HT.sIx_nat, List.drop_zero, Nat.sub_zero]
      rcases Nat.le_total n vs.length with l | l
      · rw [Nat.min_eq_left l]
      · rw [Nat.min_eq_right l, List.take_of_length_le l, List.take_length]
    rw [e]
    exact q _ p (same_new s2 np) (.inl (.inl upd_same))
theorem gt_cat {ta tb : TE} {σ : L2.St} {H : Hp} {xs ys : List V} (ha : GT K ta σ H xs) (hb : GT K tb σ H ys) (hz : xs.length + ys.length ≤ sizeLine) : GT K (tOp (rCatA K) ta tb) σ H (xs ++ ys) := fun H1 s Q q => ha H1 s _ fun H2 x s2 hx =>
  hb H2 (s.trans s2) _ fun H3 y s3 hy => by
    refine ⟨x, y, xs, ys, rfl, rfl, sameT s3 hx, hy, hz, fun e => ?_, fun _ e => ?_, fun _ _ p np => ?_⟩
    · exact q H3 y (s2.trans s3) (by rw [e]; exact hy)
    · exact q H3 x (s2.trans s3) (by rw [e, List.append_nil]; exact sameT s3 hx)
    · exact q _ p (same_new (s2.trans s3) np) (.inl (.inl upd_same))
theorem gt_rep {ta : TE} {σ : L2.St} {H : Hp} {xs : List V} {n : Nat} (ha : GT K ta σ H xs) (h2 : 2 ≤ n) (h1 : n ≤ 1000) (hz : xs.length ≤ 1000) : GT K (tOp (rRepA K) ta (tC (.int (n : Int)))) σ H (List.replicate n xs).flatten := fun H1 s Q q => ha H1 s _ fun H2 x s2 hx => by
  refine ⟨x, n, xs, rfl, rfl, hx, by omega, by omega, hz, fun e => ?_, fun _ p np => ?_⟩
  · have e2 : (List.replicate n xs).flatten = xs := by
      subst e
      simp
    exact q H2 x s2 (by rw [e2]; exact hx)
  · exact q _ p (same_new s2 np) (.inl (.inl upd_same))
theorem nv_rev (ks : List Nat) : (nv ks).reverse = nv ks.reverse := by unfold nv; rw [List.map_reverse]
theorem nv_take (ks : List Nat) (n : Nat) : (nv ks).take n = nv (ks.take n) := by unfold nv; rw [List.map_take]
theorem nv_app (ks js : List Nat) : nv ks ++ nv js = nv (ks ++ js) := by unfold nv; rw [List.map_append]
theorem nv_rep (ks : List Nat) (n : Nat) : (List.replicate n (nv ks)).flatten = nv (List.replicate n ks).flatten := by unfold nv; rw [List.map_flatten, List.map_replicate]
theorem mem_rep {ks : List Nat} {n x : Nat} : x ∈ (List.replicate (n + 1) ks).flatten ↔ x ∈ ks := by
  constructor
  · intro h
    obtain ⟨l, hl, hx⟩ := List.mem_flatten.mp h
    rw [List.eq_of_mem_replicate hl] at hx
    exact hx
  · exact fun h => List.mem_flatten.mpr ⟨ks, List.mem_replicate.mpr ⟨by omega, rfl⟩, h⟩
theorem same_keeps {H H0 H' : Hp} {p : Addr} (hp : H p = none) (s : Same H H0) (k : Keeps p H0 H') : Same H H' := fun b o e => k b o (ne_of_none e hp) (s b o e)
theorem dp_tup {H : Hp} {a : Addr} {ns : List Nat} (h : SqT K H a (nv ns)) : Dp K H (.ref a) (.tuple (nd' ns)) := .tup h (dp_nv ns)
theorem nd_canAll : ∀ ns : List Nat, PyData.canLayAll0 (nd' ns) = true
  | [] => rfl
  | n :: ns => nd_canAll ns
theorem nd_can (ns : List Nat) : PyData.canLay0 (.tuple (nd' ns)) = true := nd_canAll ns
theorem nd_dep (ns : List Nat) : PyData.depth (.tuple (nd' ns)) ≤ 2 := by
  have := nd_depth ns
  show PyData.depthAll (nd' ns) + 1 ≤ 2
  omega
theorem nd_shaped (ns : List Nat) : SeqAt.shaped (.tuple (nd' ns)) = true := by
  unfold SeqAt.shaped
  rw [nd_can, Bool.true_and]
  exact decide_eq_true (Nat.le_trans (nd_dep ns) (by decide))
theorem bl_small {n h i : Nat} (hn : n ≤ 60) (hi : i ∈ bl n h) : i < 2 ^ 61 := Nat.lt_trans (Nat.lt_of_lt_of_le (bl_lt hi) hn) (by decide)
theorem log_small {n : Nat} (h : n < 2 ^ 61) : (n : Int).natAbs.log2 < 1920 := by
  by_cases z : n = 0
  · subst z; decide
  · have := (Nat.log2_lt z).mpr h
    simpa using (Nat.lt_of_lt_of_le this (by decide) : n.log2 < 1920)
theorem kb1 {x n : Str} {st : Stmt} (F : Fun K x x st f fd) (h1 : ∀ (kV doc pm : Value) (an : Option Addr) (cdv ct u : Value), bindArgs (PySem.W.fnOf x x (defArgs st) (defBody st) (defScope st) .none kV doc pm an cdv ct) ⟨[], [(n, u)]⟩ = pure [(n, u)])
    (h2 : ∀ (kV doc pm : Value) (an : Option Addr) (cdv ct u : Value), bindArgs (PySem.W.fnOf x x (defArgs st) (defBody st) (defScope st) .none kV doc pm an cdv ct) ⟨[u], []⟩ = pure [(n, u)]) : KBinds K fd [n] [n] (fun us ws => us ++ ws) (fun vs zs => vs ++ zs) := by
  obtain ⟨oc, od, kV, doc, pm, an, cdv, ct, osl, rfl, lk, hcd⟩ := F.ex
  refine ⟨fun s us ws _ hl => ?_, fun r1 r2 => r1.append r2⟩
  match us, ws, hl with
  | [], [u], _ => exact .of_eq (h1 kV doc pm an cdv ct u)
  | [u], [], _ => exact .of_eq (h2 kV doc pm an cdv ct u)
  | [], [], hl => cases hl
  | [], _ :: _ :: _, hl => exact absurd (Nat.succ.inj hl) (by simp)
  | [_], _ :: _, hl => exact absurd (Nat.succ.inj hl) (by simp)
  | _ :: _ :: _, _, hl => exact absurd (Nat.succ.inj hl) (by simp)
end
/-- where a def of the top stands -/
structure DefAt (K : PySem.W.Frag) (x : Str) (st : Stmt) (f : Addr) : Prop where
  at_ : PySem.W.nsIn K mainGlobals x = some (some (.ref f))
  fn : ∃ fd, Fun K x x st f fd
theorem mkD {K : PySem.W.Frag} {x : Str} {st : Stmt} {f : Addr} {oc kV doc pm cdv ct : Value} {od an : Option Addr} {osl : Array (Option Value)} (a : PySem.W.nsIn K mainGlobals x = some (some (.ref f)))
    (l : K.lookup f = some ⟨oc, od, .func (PySem.W.fnOf x x (defArgs st) (defBody st) (defScope st) .none kV doc pm an cdv ct), osl⟩) (c : PySem.W.codeIn K cdv x = true) (k : PySem.W.keepIn K (.ref f) = true) : DefAt K x st f := ⟨a, _, fun_mk (st := st) l c k⟩

/-! ### tables and pots -/
open LamX NdefX
def KT (a : Addr) (H H' : Hp) : Prop := ∀ b o, b ≠ a → H b = some o → (∀ ps, o ≠ .tbl ps) → H' b = some o
theorem KT.refl (a : Addr) (H : Hp) : KT a H H := fun _ _ _ h _ => h
theorem KT.trans {a : Addr} {H H1 H2 : Hp} (x : KT a H H1) (y : KT a H1 H2) : KT a H H2 := fun b o n h t => y b o n (x b o n h t) t
theorem KT.k {a : Addr} {H H1 : Hp} (x : Keeps a H H1) : KT a H H1 := fun b o n h _ => x b o n h
theorem KT.e {a : Addr} {H H1 : Hp} (x : ExtN H H1) : KT a H H1 := fun b o _ h t => x b o h t
theorem ExtN.s {H H1 : Hp} (x : Same H H1) : ExtN H H1 := ExtN.of x
theorem Pot.ext {H H' : Hp} {a : Addr} {n : Nat} (h : Pot H a n) (s : ExtN H H') : Pot H' a n := let ⟨x, y, z, h1, h2⟩ := h; ⟨x, y, z, s _ _ h1 (fun ps z => nomatch z), h2⟩
theorem tabs_keeps {T : List (Addr × Str)} {H H' : Hp} {a : Addr} {m : Nat} (p : Pot H a m) (t : Tabs T H) (k : Keeps a H H') : Tabs T H' := fun q hq => by
  obtain ⟨x, y, z, hH, _⟩ := p
  obtain ⟨ps, h1, h2, h3⟩ := t q hq
  refine ⟨ps, k _ _ (fun e => ?_) h1, h2, fun pos cv hc => ?_⟩
  · rw [e, hH] at h1
    cases h1
  · obtain ⟨c, e1, e2⟩ := h3 pos cv hc
    refine ⟨c, e1, k _ _ (fun e => ?_) e2⟩
    rw [e, hH] at e2
    unfold CodeO at e2
    cases e2
theorem ext_new {H H1 : Hp} {p : Addr} {o : HO} (x : ExtN H H1) (h : H1 p = none) : ExtN H (upd H1 p o) := fun b u e t => by
  have e1 := x b u e t
  rw [upd_ne (ne_of_none e1 h)]
  exact e1
theorem tabs_new {T : List (Addr × Str)} {H : Hp} {p : Addr} {o : HO} (t : Tabs T H) (h : H p = none) : Tabs T (upd H p o) := t.ext fun b u e => by
  rw [upd_ne (ne_of_none e h)]
  exact e
theorem extT {K : PySem.W.Frag} {H H' : Hp} {a : Addr} {xs : List V} (e : ExtN H H') (h : SqT K H a xs) : SqT K H' a xs := ext_tup e h
theorem extL {K : PySem.W.Frag} {H H' : Hp} {a : Addr} {xs : List V} (e : ExtN H H') (h : SqL K H a xs) : SqL K H' a xs := by
  rcases h with (h | ⟨o, h⟩) | h
  · exact .inl (.inl (e _ _ h (fun ps z => nomatch z)))
  · exact .inl (.inr ⟨o, e _ _ h (fun ps z => nomatch z)⟩)
  · exact .inr h
theorem ext_kt {H H0 H' : Hp} {p : Addr} (hp : H p = none) (s : ExtN H H0) (k : KT p H0 H') : ExtN H H' := fun b o e t => k b o (ne_of_none e hp) (s b o e t) t
/-- a def whose body makes a lambda: its code object is at c -/
structure FunT (K : PySem.W.Frag) (x : Str) (st : Stmt) (f : Addr) (fd : FuncData) (c : Addr) : Prop where
  ex : ∃ (oc : Value) (od : Option Addr) (kV doc pm : Value) (an : Option Addr) (ct : Value) (osl : Array (Option Value)),
    fd = PySem.W.fnOf x x (defArgs st) (defBody st) (defScope st) .none kV doc pm an (.ref c) ct ∧ K.lookup f = some ⟨oc, od, .func fd, osl⟩ ∧ PySem.W.codeIn K (.ref c) x = true
  kp : PySem.W.keepIn K (.ref f) = true
theorem FunT.ok {P : Program} {w : World} {K : PySem.W.Frag} {mg : Str → Option Value} {base : Heap} {x : Str} {st : Stmt} {f c : Addr} {fd : FuncData} {N ps : List Str} {k : Nat} {sp : Sp} (F : FunT K x st f fd c) (S : FnScope N ps (defScope st)) (len : ∀ vs H Q E, sp vs H Q E → vs.length = ps.length)
    (hbody : ∀ (A : Around) (outer : List Env) (s : Shared) (H : Hp) (vs : List V) (Q : VK) (E : XK), Room k (A.deeper (envOfC x (defScope st) s.heap.objs.size f (.ref c))) → sp vs H Q E →
      ∃ t, PSs (cxOf CX0 P w K mg base N x (defScope st) f (.ref c) A outer s H E).nox (defBody st) t ∧ t { nx := fun _ H' => Q .non H', rt := Q } (start N vs) H) : FnOk P w K mg base CX0 (k + 1) f fd ps sp := by
  obtain ⟨oc, od, kV, doc, pm, an, ct, osl, rfl, lk, hcd⟩ := F.ex
  refine fn_of lk hcd S len fun A outer s H vs Q E hr hs => ?_
  obtain ⟨t, h, q⟩ := hbody A outer s H vs Q E hr hs
  exact ⟨t, h.nox, q⟩
theorem FunT.fn {K : PySem.W.Frag} {x : Str} {st : Stmt} {f c : Addr} {fd : FuncData} (F : FunT K x st f fd c) : Fun K x x st f fd := let ⟨oc, od, kV, doc, pm, an, ct, osl, e, lk, hcd⟩ := F.ex; ⟨⟨oc, od, kV, doc, pm, an, .ref c, ct, osl, e, lk, hcd⟩, F.kp⟩
abbrev lamNm : Str := (("round_bits" : Str) ++ (".<locals>." : Str)) ++ ("<lambda>" : Str)
end Bf
namespace Bf
open PySem PySem.Spec PyProof.Rows L2
/-! ### ways -/
def wf (s : Nat) (ks : List Nat) : Nat := ks.foldl (fun h k => h ^^^ 2 ^ k) s
def wl (s : Nat) (ks : List Nat) : List Nat := (List.range (ks.length + 1)).map fun i => wf s (ks.take i)
theorem wf_snoc (s : Nat) (ks : List Nat) (k : Nat) : wf s (ks ++ [k]) = wf s ks ^^^ 2 ^ k := by
  unfold wf
  rw [List.foldl_append]
  rfl
theorem wl_snoc (s : Nat) (ks : List Nat) (k : Nat) : wl s (ks ++ [k]) = wl s ks ++ [wf s ks ^^^ 2 ^ k] := by
  unfold wl
  rw [List.length_append, List.length_singleton, List.range_succ, List.map_append]
  congr 1
  · refine List.map_congr_left fun i hi => ?_
    have := List.mem_range.mp hi
    rw [List.take_append_of_le_length (by omega)]
  · show [wf s ((ks ++ [k]).take (ks.length + 1))] = _
    rw [List.take_of_length_le (by rw [List.length_append]; simp), wf_snoc]
theorem wl_last (s : Nat) (ks : List Nat) : ∃ l, wl s ks = l ++ [wf s ks] := by
  refine ⟨(List.range ks.length).map fun i => wf s (ks.take i), ?_⟩
  unfold wl
  rw [List.range_succ, List.map_append]
  simp
theorem wl_len (s : Nat) (ks : List Nat) : (wl s ks).length = ks.length + 1 := by
  unfold wl
  rw [List.length_map, List.length_range]
theorem wl_nil (s : Nat) : wl s [] = [s] := rfl
theorem wl_at {s : Nat} {ks : List Nat} {i : Nat} (h : i ≤ ks.length) : (wl s ks)[i]? = some (wf s (ks.take i)) := by
  unfold wl
  rw [List.getElem?_map, List.getElem?_range (by omega)]
  rfl
theorem wf_lt {q : Nat} : ∀ {ks : List Nat} {s : Nat}, s < 2 ^ q → (∀ k ∈ ks, k < q) → wf s ks < 2 ^ q
  | [], s, h, _ => h
  | k :: ks, s, h, hk => wf_lt (ks := ks) (Nat.xor_lt_two_pow h (Nat.pow_lt_pow_right (by decide) (hk k List.mem_cons_self))) fun x hx => hk x (List.mem_cons_of_mem _ hx)
theorem wf_xor : ∀ (ks : List Nat) (s : Nat), wf s ks = s ^^^ wf 0 ks
  | [], s => by simp [wf]
  | k :: ks, s => by
    have h1 := wf_xor ks (s ^^^ 2 ^ k)
    have h2 := wf_xor ks (0 ^^^ 2 ^ k)
    show wf (s ^^^ 2 ^ k) ks = s ^^^ wf (0 ^^^ 2 ^ k) ks
    rw [h1, h2, Nat.zero_xor, Nat.xor_assoc]
theorem wf_bit {i : Nat} : ∀ {ks : List Nat}, ks.Nodup → (wf 0 ks).testBit i = decide (i ∈ ks)
  | [], _ => by simp [wf]
  | k :: ks, nd => by
    obtain ⟨n1, n2⟩ := List.nodup_cons.mp nd
    have h2 := wf_xor ks (0 ^^^ 2 ^ k)
    show (wf (0 ^^^ 2 ^ k) ks).testBit i = _
    rw [h2, Nat.zero_xor, Nat.testBit_xor, wf_bit n2, Nat.testBit_two_pow]
    by_cases e : i = k
    · subst e
      simp [n1]
    · have e2 : ¬ k = i := fun z => e z.symm
      simp [e, e2]
theorem rb_nodup (q h j : Nat) : (rb q h j).Nodup := (rb_sorted q h j).imp fun {a b} hab e => by
  subst e
  exact Int.lt_irrefl _ hab
theorem wf_rb {q d j : Nat} (hd : d < 2 ^ q) : wf 0 (rb q d j) = d := by
  refine Nat.eq_of_testBit_eq fun i => ?_
  rw [wf_bit (rb_nodup q d j)]
  cases e : d.testBit i with
  | true =>
    refine decide_eq_true (mem_rb.mpr ⟨Nat.lt_of_not_le fun l => ?_, e⟩)
    rw [Nat.testBit_lt_two_pow (Nat.lt_of_lt_of_le hd (Nat.pow_le_pow_right (by decide) l))] at e
    cases e
  | false =>
    refine decide_eq_false fun z => ?_
    rw [(mem_rb.mp z).2] at e
    cases e
/-- the turns behind the first, so many of them -/
def tp (q d j n : Nat) : List Nat := ((List.range n).map fun i => (j + (1 + i)) % q).filter fun k => d.testBit k
theorem tp_succ (q d j n : Nat) : tp q d j (n + 1) = tp q d j n ++ (if d.testBit ((j + (1 + n)) % q) = true then [(j + (1 + n)) % q] else []) := by
  unfold tp
  rw [List.range_succ, List.map_append, List.filter_append]
  cases e : d.testBit ((j + (1 + n)) % q) <;> simp [e]
theorem tp_len (q d j n : Nat) : (tp q d j n).length ≤ n := by
  have h1 := List.length_filter_le (fun k => d.testBit k) ((List.range n).map fun i => (j + (1 + i)) % q)
  rw [List.length_map, List.length_range] at h1
  exact h1
theorem tp_lt {q d j n k : Nat} (hq : 0 < q) (h : k ∈ tp q d j n) : k < q := by
  unfold tp at h
  obtain ⟨i, _, rfl⟩ := List.mem_map.mp (List.mem_filter.mp h).1
  exact Nat.mod_lt _ hq
theorem rb_split {q d j : Nat} (hj : j < q) : rb q d j = (if d.testBit j = true then [j] else []) ++ tp q d j (q - 1) := by
  unfold rb tp
  obtain ⟨n, rfl⟩ : ∃ n, q = n + 1 := ⟨q - 1, by omega⟩
  rw [List.range_succ_eq_map, List.map_cons, Nat.add_sub_cancel, Nat.add_zero, Nat.mod_eq_of_lt hj, List.map_map]
  have e : (List.range n).map ((fun i => (j + i) % (n + 1)) ∘ Nat.succ) = (List.range n).map fun i => (j + (1 + i)) % (n + 1) := List.map_congr_left fun i _ => by
    show (j + (i + 1)) % (n + 1) = _
    rw [Nat.add_comm i 1]
  rw [e]
  cases eb : d.testBit j <;> simp [eb]
/-- the bits crossed in tree j -/
def cl (q d j : Nat) : List Nat := j :: tp q d j (q - 1) ++ (if d.testBit j = true then [] else [j])
theorem cl_in {q d j : Nat} (hj : j < q) (h : d.testBit j = true) : cl q d j = rb q d j := by
  rw [rb_split hj]
  unfold cl
  simp [h]
theorem cl_out {q d j : Nat} (hj : j < q) (h : d.testBit j = false) : cl q d j = [j] ++ rb q d j ++ [j] := by
  rw [rb_split hj]
  unfold cl
  simp [h]
theorem cl_lt {q d j k : Nat} (hj : j < q) (h : k ∈ cl q d j) : k < q := by
  unfold cl at h
  rcases List.mem_append.mp h with h | h
  · rcases List.mem_cons.mp h with rfl | h
    · exact hj
    · exact tp_lt (by omega) h
  · split at h
    · exact absurd h List.not_mem_nil
    · rw [List.mem_singleton.mp h]
      exact hj
theorem cl_len (q d j : Nat) (hq : 0 < q) : (cl q d j).length ≤ q + 1 := by
  unfold cl
  have := tp_len q d j (q - 1)
  rw [List.length_append, List.length_cons]
  split <;> simp <;> omega
theorem cl_ne (q d j : Nat) : cl q d j ≠ [] := by
  unfold cl
  simp
theorem wf_cl {q d j : Nat} (hj : j < q) (hd : d < 2 ^ q) (s : Nat) : wf s (cl q d j) = s ^^^ d := by
  rw [wf_xor]
  congr 1
  cases e : d.testBit j with
  | true => rw [cl_in hj e, wf_rb hd]
  | false =>
    rw [cl_out hj e, wf_snoc]
    have h1 : wf 0 ([j] ++ rb q d j) = 2 ^ j ^^^ d := by
      show wf (0 ^^^ 2 ^ j) (rb q d j) = _
      rw [wf_xor, wf_rb hd, Nat.zero_xor]
    rw [h1, Nat.xor_comm (2 ^ j) d, Nat.xor_assoc, Nat.xor_self, Nat.xor_zero]
end Bf
namespace Bf
open PySem PySem.Spec PyProof.Rows L2 LamX NdefX
theorem op_xorN {X : Cx} : OpR X (binaryOp .BitXor) (fun x y H Q => ∃ n m : Nat, x = .int (n : Int) ∧ y = .int (m : Int) ∧ Q (.int ((n ^^^ m : Nat) : Int)) H) := by
  intro pins s σ H x y v u Q I rx ry h
  obtain ⟨n, m, rfl, rfl, q⟩ := h
  refine op_xor pins s σ H _ _ v u Q I rx ry ⟨(n : Int), (m : Int), rfl, rfl, ?_⟩
  show Q (.int (Builtin.bitXor (n : Int) (m : Int))) H
  rw [Bits.bitXor_pp (Int.natCast_nonneg n) (Int.natCast_nonneg m)]
  exact q
theorem op_modNN {X : Cx} : OpR X (binaryOp .Mod) (fun x y H Q => ∃ n m : Nat, x = .int (n : Int) ∧ y = .int (m : Int) ∧ 0 < m ∧ Q (.int ((n % m : Nat) : Int)) H) := by
  intro pins s σ H x y v u Q I rx ry h
  obtain ⟨n, m, rfl, rfl, hm, q⟩ := h
  refine op_mod pins s σ H _ _ v u Q I rx ry ⟨(n : Int), (m : Int), rfl, rfl, (show (0 : Int) < (m : Int) by omega), ?_⟩
  rw [Int.natCast_emod] at q
  exact q
/-! ### defs with source=0 behind a star -/
abbrev FunS (K : PySem.W.Frag) (x : Str) (st : Stmt) (f : Addr) (fd : FuncData) : Prop := FunD K x x (defArgs st) (defBody st) (defScope st) [] [("source", .int 0)] f fd
theorem FunS.go {P : Program} {w : World} {K : PySem.W.Frag} {mg : Str → Option Value} {base : Heap} {x : Str} {st : Stmt} {f : Addr} {fd : FuncData} {N ps : List Str} {k : Nat} {sp : Sp} (F : FunS K x st f fd) (S : FnScope N ps (defScope st)) (len : ∀ vs H Q E, sp vs H Q E → vs.length = ps.length)
    (hbody : ∀ (cdv : Value) (A : Around) (outer : List Env) (s : Shared) (H : Hp) (vs : List V) (Q : VK) (E : XK), Room k (A.deeper (envOfC x (defScope st) s.heap.objs.size f cdv)) → sp vs H Q E →
      ∃ t, PSs (cxOf CX0 P w K mg base N x (defScope st) f cdv A outer s H E).nox (defBody st) t ∧ t { nx := fun _ H' => Q .non H', rt := Q } (start N vs) H) : FnOk P w K mg base CX0 (k + 1) f fd ps sp :=
  FunD.ok F S len fun cdv A outer s H vs Q E hr hs => let ⟨t, h, q⟩ := hbody cdv A outer s H vs Q E hr hs; ⟨t, h.nox, q⟩
def g3 {α : Type} (us ws : List α) : List α := match us, ws with
  | [a, b, c], [d] => [a, b, c, d]
  | _, _ => []
theorem g3_rel {vs zs : List V} {us ws : List Value} (r1 : Vals vs us) (r2 : Vals zs ws) : Vals (g3 vs zs) (g3 us ws) := by
  match r1, r2 with
  | .nil, _ => exact .nil
  | .cons _ .nil, _ => exact .nil
  | .cons _ (.cons _ .nil), _ => exact .nil
  | .cons _ (.cons _ (.cons _ .nil)), .nil => exact .nil
  | .cons a (.cons b (.cons c .nil)), .cons d .nil => exact .cons a (.cons b (.cons c (.cons d .nil)))
  | .cons _ (.cons _ (.cons _ .nil)), .cons _ (.cons _ _) => exact .nil
  | .cons _ (.cons _ (.cons _ (.cons _ _))), _ => exact .nil
theorem g3_len {us ws : List Value} (h : (g3 us ws).length = 4) : ∃ a b c d, us = [a, b, c] ∧ ws = [d] := by
  match us, ws, h with
  | [a, b, c], [d], _ => exact ⟨a, b, c, d, rfl, rfl⟩
  | [], _, h => cases h
  | [_], _, h => cases h
  | [_, _], _, h => cases h
  | [_, _, _], [], h => cases h
  | [_, _, _], _ :: _ :: _, h => cases h
  | _ :: _ :: _ :: _ :: _, _, h => cases h
theorem kbS {K : PySem.W.Frag} {x : Str} {st : Stmt} {f : Addr} {fd : FuncData} (F : FunS K x st f fd) (h : ∀ (kV doc pm : Value) (an : Option Addr) (cdv ct a b c d : Value), bindArgs (PySem.W.fnOf x x (defArgs st) (defBody st) (defScope st) .none kV doc pm an cdv ct) ⟨[a, b, c], [(("source" : Str), d)]⟩ = pure ([("q", a), ("hand", b), ("j", c), ("source", d)] : List (Str × Value))) :
    KBinds K fd ["q", "hand", "j", "source"] ["source"] g3 g3 := by
  obtain ⟨oc, od, dV, kV, doc, pm, an, cdv, ct, osl, rfl, lk, hcd, hD, hK⟩ := F.ex
  rcases hD with ⟨_, rfl⟩ | ⟨z, _⟩
  · refine ⟨fun s us ws _ hl => ?_, fun r1 r2 => g3_rel r1 r2⟩
    obtain ⟨a, b, c, d, rfl, rfl⟩ := g3_len hl
    exact .of_eq (h kV doc pm an cdv ct a b c d)
  · exact absurd rfl z
/-! ### tuples that expressions give, tables aside -/
def GE (K : PySem.W.Frag) (T : List (Addr × Str)) (t : TE) (σ : L2.St) (H : Hp) (vs : List V) : Prop := ∀ H1, ExtN H H1 → Tabs T H1 → ∀ Q : VK, (∀ H2 x, ExtN H1 H2 → Tabs T H2 → SqT K H2 x vs → Q (.ref x) H2) → t σ H1 Q
theorem ge_cat {K : PySem.W.Frag} {T : List (Addr × Str)} {ta tb : TE} {σ : L2.St} {H : Hp} {xs ys : List V} (ha : GE K T ta σ H xs) (hb : GE K T tb σ H ys) (hz : xs.length + ys.length ≤ sizeLine) : GE K T (tOp (rCatA K) ta tb) σ H (xs ++ ys) := fun H1 s t Q q => ha H1 s t _ fun H2 x s2 t2 hx =>
  hb H2 (s.trans s2) t2 _ fun H3 y s3 t3 hy => by
    refine ⟨x, y, xs, ys, rfl, rfl, extT s3 hx, hy, hz, fun e => ?_, fun _ e => ?_, fun _ _ p np => ?_⟩
    · exact q H3 y (s2.trans s3) t3 (by rw [e]; exact hy)
    · exact q H3 x (s2.trans s3) t3 (by rw [e, List.append_nil]; exact extT s3 hx)
    · exact q _ p (ext_new (s2.trans s3) np) (tabs_new t3 np) (.inl (.inl upd_same))
theorem ge_one {K : PySem.W.Frag} {T : List (Addr × Str)} {i : Nat} {σ : L2.St} {H : Hp} {v : V} (hi : σ[i]? = some (some v)) : GE K T (tTup (tCons (tVar i) tNil)) σ H [v] := fun H1 s t Q q =>
  ⟨v, hi, (by show 1 ≤ sizeLine; decide), fun p np => q _ p (ext_new (ExtN.refl H1) np) (tabs_new t np) (.inl (.inl upd_same))⟩
end Bf
namespace Bf
open PySem PySem.Spec PyProof.Rows L2
/-! ### who hears whom -/
theorem sorted_last {α : Type} {key : α → Int} {k : α} : ∀ {l : List α}, l.Pairwise (fun a b => key a < key b) → (l.getLast? = some k ↔ k ∈ l ∧ ∀ x ∈ l, key x ≤ key k)
  | [], _ => by simp
  | [a], _ => by
    simp only [List.getLast?_singleton, Option.some.injEq, List.mem_singleton]
    constructor
    · rintro rfl
      exact ⟨rfl, fun x hx => by rw [hx]; exact Int.le_refl _⟩
    · exact fun h => h.1.symm
  | a :: b :: l, hp => by
    obtain ⟨h1, h2⟩ := List.pairwise_cons.mp hp
    have ih := sorted_last (k := k) h2
    rw [List.getLast?_cons_cons, ih]
    constructor
    · rintro ⟨m, h⟩
      refine ⟨List.mem_cons_of_mem _ m, fun x hx => ?_⟩
      rcases List.mem_cons.mp hx with rfl | hx
      · exact Int.le_of_lt (h1 k m)
      · exact h x hx
    · rintro ⟨m, h⟩
      have hb := h1 b List.mem_cons_self
      have hb2 := h b (List.mem_cons_of_mem _ List.mem_cons_self)
      rcases List.mem_cons.mp m with rfl | m
      · omega
      · exact ⟨m, fun x hx => h x (List.mem_cons_of_mem _ hx)⟩
theorem bit_xor (d k x : Nat) : (d ^^^ 2 ^ k).testBit x = (d.testBit x ^^ decide (k = x)) := by rw [Nat.testBit_xor, Nat.testBit_two_pow]
theorem lt_of_bit {d q x : Nat} (hd : d < 2 ^ q) (h : d.testBit x = true) : x < q := Nat.lt_of_not_le fun l => by
  rw [Nat.testBit_lt_two_pow (Nat.lt_of_lt_of_le hd (Nat.pow_le_pow_right (by decide) l))] at h
  cases h
theorem ar_self {q j : Nat} : ar q j j = 0 := by
  unfold ar
  rw [Int.sub_self, Int.zero_emod]
theorem ar_nn {q j x : Nat} (hq : 0 < q) : 0 ≤ ar q j x := Int.emod_nonneg _ (by omega)
theorem ar_lt {q j x : Nat} (hq : 0 < q) : ar q j x < q := Int.emod_lt_of_pos _ (by omega)
/-- k is the last bit crossed to the hand across by k -/
def Hr (q d j k : Nat) : Prop := (cl q (d ^^^ 2 ^ k) j).getLast? = some k
theorem hr_iff {q d j k : Nat} (hj : j < q) (hk : k < q) (hd : d < 2 ^ q) : Hr q d j k ↔ (k = j ∧ (d = 0 ∨ d.testBit j = true)) ∨ (d.testBit j = true ∧ k ≠ j ∧ ∀ x, d.testBit x = true → ar q j x < ar q j k) := by
  have hq : 0 < q := by omega
  have hd' : d ^^^ 2 ^ k < 2 ^ q := Nat.xor_lt_two_pow hd (Nat.pow_lt_pow_right (by decide) hk)
  have bj := bit_xor d k j
  unfold Hr
  by_cases e : k = j
  · subst e
    rw [decide_eq_true rfl] at bj
    cases b : d.testBit k with
    | true =>
      rw [b] at bj
      rw [cl_out hj bj, List.getLast?_append, List.getLast?_singleton]
      simp
    | false =>
      rw [b] at bj
      rw [cl_in hj bj, sorted_last (rb_sorted q _ k)]
      constructor
      · rintro ⟨m, h⟩
        refine .inl ⟨rfl, .inl ?_⟩
        refine Nat.eq_of_testBit_eq fun x => ?_
        rw [Nat.zero_testBit]
        cases bx : d.testBit x with
        | false => rfl
        | true =>
          exfalso
          have hx : x < q := lt_of_bit hd bx
          have hxk : k ≠ x := fun z => by rw [z, bx] at b; cases b
          have hx2 : x ∈ rb q (d ^^^ 2 ^ k) k := mem_rb.mpr ⟨hx, by rw [bit_xor, bx, decide_eq_false hxk]; rfl⟩
          have h1 := h x hx2
          rw [ar_self] at h1
          have h2 := ar_nn (q := q) (j := k) (x := x) hq
          have h3 : ar q k x = ar q k k := by rw [ar_self]; omega
          exact hxk (ar_inj hx hk h3).symm
      · rintro (⟨_, h | h⟩ | ⟨h, _⟩)
        · subst h
          refine ⟨mem_rb.mpr ⟨hk, bj⟩, fun x hx => ?_⟩
          have := (mem_rb.mp hx).2
          rw [bit_xor, Nat.zero_testBit] at this
          have hx : k = x := by simpa using this
          rw [hx]
          exact Int.le_refl _
        · cases h
        · cases h
  · rw [decide_eq_false e, Bool.xor_false] at bj
    cases b : d.testBit j with
    | false =>
      rw [b] at bj
      rw [cl_out hj bj]
      constructor
      · intro h
        rw [List.getLast?_append, List.getLast?_singleton] at h
        exact absurd (Option.some.inj h).symm e
      · rintro (⟨h, _⟩ | ⟨h, _⟩)
        · exact absurd h e
        · cases h
    | true =>
      rw [b] at bj
      rw [cl_in hj bj, sorted_last (rb_sorted q _ j)]
      constructor
      · rintro ⟨m, h⟩
        refine .inr ⟨rfl, e, fun x bx => ?_⟩
        have m2 := (mem_rb.mp m).2
        have hkx : k ≠ x := fun z => by
          rw [bit_xor, z, bx, decide_eq_true rfl] at m2
          cases m2
        have hx : x < q := lt_of_bit hd bx
        have h1 := h x (mem_rb.mpr ⟨hx, by rw [bit_xor, bx, decide_eq_false hkx]; rfl⟩)
        have h2 : ar q j x ≠ ar q j k := fun z => hkx (ar_inj hx hk z).symm
        omega
      · rintro (⟨h, _⟩ | ⟨_, _, h⟩)
        · exact absurd h e
        · have bk : d.testBit k = false := by
            cases z : d.testBit k with
            | false => rfl
            | true => exact absurd (h k z) (Int.lt_irrefl _)
          refine ⟨mem_rb.mpr ⟨hk, by rw [bit_xor, bk, decide_eq_true rfl]; rfl⟩, fun x hx => ?_⟩
          by_cases hkx : k = x
          · rw [hkx]
            exact Int.le_refl _
          · have hx2 := (mem_rb.mp hx).2
            rw [bit_xor, decide_eq_false hkx, Bool.xor_false] at hx2
            exact Int.le_of_lt (h x hx2)
theorem xor_pow_inj {h a b : Nat} (e : h ^^^ 2 ^ a = h ^^^ 2 ^ b) : a = b := by
  have : 2 ^ a = 2 ^ b := by
    have := congrArg (h ^^^ ·) e
    simpa [← Nat.xor_assoc] using this
  exact (Nat.pow_right_inj (by decide)).mp this
/-- the places behind p -/
def onw (q h j p n : Nat) : List Nat := (List.range n).map fun i => h ^^^ 2 ^ ((j + (p + i)) % q)
theorem onw_succ (q h j p n : Nat) : onw q h j p (n + 1) = onw q h j p n ++ [h ^^^ 2 ^ ((j + (p + n)) % q)] := by
  unfold onw
  rw [List.range_succ, List.map_append]
  rfl
theorem onw_len (q h j p n : Nat) : (onw q h j p n).length = n := by
  unfold onw
  rw [List.length_map, List.length_range]
theorem hears_mem {q h j d p : Nat} (hj : j < q) (hd : d < 2 ^ q) (b : d.testBit j = true) (hp : ∀ x, d.testBit x = true → ar q j x ≤ (p : Int)) (hp2 : ∃ x, d.testBit x = true ∧ ar q j x = (p : Int)) (x : Nat) :
    x ∈ (h ^^^ 2 ^ j) :: onw q h j (p + 1) (q - (p + 1)) ↔ ∃ k, k < q ∧ x = h ^^^ 2 ^ k ∧ Hr q d j k := by
  have hq : 0 < q := by omega
  constructor
  · intro hx
    rcases List.mem_cons.mp hx with rfl | hx
    · exact ⟨j, hj, rfl, (hr_iff hj hj hd).mpr (.inl ⟨rfl, .inr b⟩)⟩
    · unfold onw at hx
      obtain ⟨i, hi, rfl⟩ := List.mem_map.mp hx
      have hi := List.mem_range.mp hi
      have hk : (j + (p + 1 + i)) % q < q := Nat.mod_lt _ hq
      have ea := ar_at (q := q) (i := p + 1 + i) j (by omega)
      refine ⟨_, hk, rfl, (hr_iff hj hk hd).mpr (.inr ⟨b, fun z => ?_, fun x bx => ?_⟩)⟩
      · rw [z, ar_self] at ea
        omega
      · have := hp x bx
        rw [ea]
        omega
  · rintro ⟨k, hk, rfl, hr⟩
    rcases (hr_iff hj hk hd).mp hr with ⟨rfl, _⟩ | ⟨_, hne, hlt⟩
    · exact List.mem_cons_self
    · obtain ⟨i, hi, e⟩ := at_of j hk
      have ea := ar_at (q := q) (i := i) j hi
      rw [e] at ea
      obtain ⟨x, bx, ex⟩ := hp2
      have h1 := hlt x bx
      rw [ea, ex] at h1
      refine List.mem_cons_of_mem _ (List.mem_map.mpr ⟨i - (p + 1), List.mem_range.mpr (by omega), ?_⟩)
      have : p + 1 + (i - (p + 1)) = i := by omega
      show h ^^^ 2 ^ ((j + (p + 1 + (i - (p + 1)))) % q) = _
      rw [this, e]
theorem hears_nodup {q h j p : Nat} (hj : j < q) : ((h ^^^ 2 ^ j) :: onw q h j (p + 1) (q - (p + 1))).Nodup := by
  have hq : 0 < q := by omega
  have key : ∀ i, i < q → ∀ i', i' < q → h ^^^ 2 ^ ((j + i) % q) = h ^^^ 2 ^ ((j + i') % q) → i = i' := fun i hi i' hi' e => by
    have e1 := xor_pow_inj e
    have a1 := ar_at (q := q) (i := i) j hi
    have a2 := ar_at (q := q) (i := i') j hi'
    rw [e1, a2] at a1
    omega
  refine List.nodup_cons.mpr ⟨fun z => ?_, ?_⟩
  · unfold onw at z
    obtain ⟨i, hi, e⟩ := List.mem_map.mp z
    have hi := List.mem_range.mp hi
    have e2 : h ^^^ 2 ^ ((j + (p + 1 + i)) % q) = h ^^^ 2 ^ ((j + 0) % q) := by
      have e0 : (j + 0) % q = j := Nat.mod_eq_of_lt hj
      rw [e0]; exact e
    have := key (p + 1 + i) (by omega) 0 hq e2
    omega
  · unfold onw List.Nodup
    rw [List.pairwise_map]
    refine (List.pairwise_lt_range).imp_of_mem fun {a b} ha hb hab e => ?_
    have ha := List.mem_range.mp ha
    have hb := List.mem_range.mp hb
    have := key _ (by omega) _ (by omega) e
    omega
end Bf
namespace Bf
open PySem PySem.Spec PyProof.Rows L2 LamX NdefX
theorem wl_step {s : Nat} {ks : List Nat} {i k : Nat} (h : ks[i]? = some k) : wl s (ks.take (i + 1)) = wl s (ks.take i) ++ [wf s (ks.take i) ^^^ 2 ^ k] := by
  rw [List.take_add_one, h]
  exact wl_snoc s (ks.take i) k
theorem tabs_upd {T : List (Addr × Str)} {H : Hp} {D : Addr} {xs ys : List V} (t : Tabs T H) (h : H D = some (.lst xs)) : Tabs T (upd H D (.lst ys)) := fun y hy => by
  obtain ⟨ps, t1, t2, t3⟩ := t y hy
  refine ⟨ps, ?_, t2, fun pos cv hc => ?_⟩
  · rw [upd_ne (fun e => by rw [e, h] at t1; cases t1)]
    exact t1
  · obtain ⟨c, e1, e2⟩ := t3 pos cv hc
    refine ⟨c, e1, ?_⟩
    rw [upd_ne (fun e => by rw [e, h] at e2; unfold CodeO at e2; cases e2)]
    exact e2
theorem nv_last {l : List Nat} {z : Nat} : atI (nv (l ++ [z])) (-1) = some (.int (z : Int)) := by
  have e : nv (l ++ [z]) = nv l ++ [.int (z : Int)] := by
    unfold nv
    rw [List.map_append]
    rfl
  rw [e]
  exact atI_last _ _
theorem nv_get' {ks : List Nat} {i : Nat} {x : V} (hx : (nv ks)[i]? = some x) : ∃ n, ks[i]? = some n ∧ V.int (n : Int) = x := by
  unfold nv at hx
  rw [List.getElem?_map] at hx
  cases e : ks[i]? with
  | none => rw [e] at hx; cases hx
  | some z => rw [e] at hx; exact ⟨z, rfl, Option.some.inj hx⟩
/-! ### small things -/
theorem pot_ne {H : Hp} {p u : Addr} {m : Nat} (h : Pot H p m) (n : H u = none) : u ≠ p := fun e => by
  obtain ⟨x, y, z, hH, _⟩ := h
  rw [e, hH] at n
  cases n
/-! ### if t: x = e -/
theorem rd_ifSet {tt : TT} {te : TE} {i : Nat} {D : Ends} {σ : L2.St} {H : Hp} (b : Bool) (R : V → Hp → Prop) (h0 : ∀ Q' : Bool → Hp → Prop, Q' b H → tt σ H Q') (h1 : b = true → ∀ Q : VK, (∀ x H', R x H' → Q x H') → te σ H Q)
    (h2 : b = false → ∃ x, σ[i]? = some (some x) ∧ R x H) (h : ∀ x H', R x H' → D.nx (σ.set i (some x)) H') : tIfS tt (tAsg te (gName i)) tNext D σ H := by
  refine h0 _ ?_
  cases b with
  | true => exact iteT (h1 rfl _ fun x H' r => h x H' r)
  | false =>
    obtain ⟨x, hx, r⟩ := h2 rfl
    have e : σ.set i (some x) = σ := by
      refine List.ext_getElem? fun j => ?_
      rw [List.getElem?_set]
      split
      · rename_i ej
        subst ej
        rw [hx]
        split
        · rfl
        · rename_i hj
          exact absurd (List.getElem?_eq_some_iff.mp hx).1 hj
      · rfl
    have z := h x H r
    rw [e] at z
    exact iteF z
theorem wl_small {q s : Nat} {ks : List Nat} (hq : q ≤ 60) (hs : s < 2 ^ q) (hk : ∀ k ∈ ks, k < q) : ∀ n ∈ wl s ks, n < 2 ^ 61 := fun n hn => by
  unfold wl at hn
  obtain ⟨i, _, rfl⟩ := List.mem_map.mp hn
  have h1 : wf s (ks.take i) < 2 ^ q := wf_lt hs fun k hk2 => hk k (List.mem_of_mem_take hk2)
  exact Nat.lt_of_lt_of_le h1 (Nat.pow_le_pow_right (by decide) (by omega))
theorem atI_2 {α : Type} (xs : List α) (u v : α) : atI (xs ++ [u, v]) (-2) = some u := by
  have hl : (xs ++ [u, v]).length = xs.length + 2 := by simp
  have e : ixN (xs ++ [u, v]).length (-2) = some xs.length := by
    unfold ixN
    rw [hl, if_neg (by decide), if_pos (by omega)]
    congr 1
    omega
  unfold atI
  rw [e]
  show (xs ++ [u, v])[xs.length]? = some u
  rw [List.getElem?_append_right (Nat.le_refl _), Nat.sub_self]
  rfl
/-- the last hand but one -/
theorem wl_but0 {s h : Nat} {ks : List Nat} (hne : ks ≠ []) (e1 : wf s ks = h) : atI (nv (wl s ks)) (-2) = some (.int (h ^^^ 2 ^ (ks.getLast hne) : Nat)) := by
  have ek : ks = ks.dropLast ++ [ks.getLast hne] := (List.dropLast_concat_getLast hne).symm
  have e3 : wf s ks.dropLast ^^^ 2 ^ (ks.getLast hne) = h := by rw [← wf_snoc, ← ek]; exact e1
  have e4 : wf s ks.dropLast = h ^^^ 2 ^ (ks.getLast hne) := by rw [← e3, Nat.xor_assoc, Nat.xor_self, Nat.xor_zero]
  obtain ⟨l0, el⟩ := wl_last s ks.dropLast
  have e5 : wl s ks = l0 ++ [wf s ks.dropLast, wf s ks.dropLast ^^^ 2 ^ (ks.getLast hne)] := by
    have z : wl s ks = wl s (ks.dropLast ++ [ks.getLast hne]) := congrArg (wl s) ek
    rw [z, wl_snoc, el]
    simp
  have e6 : nv (wl s ks) = nv l0 ++ [.int (wf s ks.dropLast : Nat), .int (wf s ks.dropLast ^^^ 2 ^ (ks.getLast hne) : Nat)] := by
    rw [e5]
    unfold nv
    rw [List.map_append]
    rfl
  rw [e6, atI_2, e4]
theorem xor_back (s h : Nat) : s ^^^ (h ^^^ s) = h := by rw [Nat.xor_comm h s, ← Nat.xor_assoc, Nat.xor_self, Nat.zero_xor]
theorem wl_but {q h s j : Nat} (hj : j < q) (hh : h < 2 ^ q) (hs : s < 2 ^ q) : atI (nv (wl s (cl q (h ^^^ s) j))) (-2) = some (.int (h ^^^ 2 ^ ((cl q (h ^^^ s) j).getLast (cl_ne _ _ _)) : Nat)) :=
  wl_but0 (cl_ne _ _ _) (by rw [wf_cl hj (Nat.xor_lt_two_pow hh hs), xor_back])
/-! ### crossed of the law -/
/-- a loop over zip of two tuples, the second no longer -/
theorem for_zipS {K : PySem.W.Frag} {a b : Addr} {xs ys : List V} {g : TG} {tb : TS} {D : Ends} {σ : L2.St} {H : Hp} (hl : ys.length ≤ xs.length) (Pv : Nat → L2.St → Hp → Prop) (h0 : Pv 0 σ H) (hq : ∀ i σ H, Pv i σ H → SqT K H a xs ∧ SqT K H b ys)
    (hs : ∀ (i : Nat) (x y : V) (T : Addr) (σ : L2.St) (H : Hp), xs[i]? = some x → ys[i]? = some y → Pv i σ H → H T = none → g (.ref T) σ (upd H T (.tup [x, y])) fun σ2 H2 => tb { D with nx := Pv (i + 1), ct := Pv (i + 1), bk := D.nx } σ2 H2) (hd : ∀ σ H, Pv ys.length σ H → D.nx σ H) :
    ∃ W : Nat → Nat → L2.St → Hp → Prop, (∃ m, W 0 m σ H) ∧ ∀ i m σ H, W i m σ H →
      ((RZ.ItzT K a b).stop i H ∧ D.nx σ H) ∨ ((RZ.ItzT K a b).go i H ∧ ∃ N : L2.St → Hp → Prop, (∀ σ' H', N σ' H' → ∃ m', m' < m ∧ W (i + 1) m' σ' H') ∧ ∀ v H', (RZ.ItzT K a b).yld i H v H' → g v σ H' fun σ2 H2 => tb { D with nx := N, ct := N, bk := D.nx } σ2 H2) := by
  refine ⟨fun i m σ H => i + m = ys.length ∧ Pv i σ H, ⟨ys.length, Nat.zero_add _, h0⟩, fun i m σ H hW => ?_⟩
  obtain ⟨e, p⟩ := hW
  obtain ⟨qa, qb⟩ := hq i σ H p
  cases m with
  | zero =>
    have e2 : i = ys.length := e
    exact .inl ⟨⟨xs, ys, qa, qb, .inr (Nat.le_of_eq e2.symm)⟩, hd σ H (e2 ▸ p)⟩
  | succ m =>
    have l2 : i < ys.length := by omega
    have l1 : i < xs.length := by omega
    refine .inr ⟨⟨xs, ys, xs[i], ys[i], qa, qb, List.getElem?_eq_getElem l1, List.getElem?_eq_getElem l2⟩, Pv (i + 1), fun σ' H' p' => ⟨m, Nat.lt_succ_self m, by omega, p'⟩, fun v H' z => ?_⟩
    obtain ⟨T, x, y, rfl, nT, rfl, z1, z2⟩ := z
    exact hs i x y T σ H (z1 xs qa) (z2 ys qb) p nT
theorem one_of (kk : Nat) : ∀ n, (List.range n).filter (fun k => decide (kk = k)) = if kk < n then [kk] else []
  | 0 => rfl
  | n + 1 => by
    rw [List.range_succ, List.filter_append, one_of kk n]
    by_cases e : kk = n
    · subst e
      simp
    · by_cases l : kk < n
      · simp [e, l, Nat.lt_succ_of_lt l]
      · have : ¬ kk < n + 1 := by omega
        simp [e, l, this]
theorem pow_dec (a b : Nat) : decide (V.int ((2 ^ a : Nat) : Int) = V.int ((2 ^ b : Nat) : Int)) = decide (a = b) := by
  by_cases e : a = b
  · subst e
    simp
  · have h : ¬ V.int ((2 ^ a : Nat) : Int) = V.int ((2 ^ b : Nat) : Int) := fun z => e ((Nat.pow_right_inj (by decide)).mp (Int.ofNat.inj (V.int.inj z)))
    rw [decide_eq_false e, decide_eq_false h]
end Bf
namespace Bf
open PySem PySem.Spec PyProof.Rows L2
/-! ### once round -/
theorem sorted_head {α : Type} {key : α → Int} {k : α} : ∀ {l : List α}, l.Pairwise (fun a b => key a < key b) → k ∈ l → (∀ x ∈ l, key k ≤ key x) → l.head? = some k
  | [], _, h, _ => absurd h List.not_mem_nil
  | a :: l, hp, hm, hk => by
    obtain ⟨h1, _⟩ := List.pairwise_cons.mp hp
    rcases List.mem_cons.mp hm with rfl | hm
    · rfl
    · have := h1 k hm
      have := hk a List.mem_cons_self
      omega
theorem ar_rel {q st k x : Nat} (c : Int) : ((x : Int) - ((k : Int) + c)) % (q : Int) = (ar q st x - ar q st k - c) % (q : Int) := by
  unfold ar
  rw [Int.emod_def ((x : Int) - st) q, Int.emod_def ((k : Int) - st) q]
  generalize ((x : Int) - st) / q = u
  generalize ((k : Int) - st) / q = v
  have e : (x : Int) - st - q * u - ((k : Int) - st - q * v) - c = ((x : Int) - (k + c)) + q * (v - u) := by
    rw [Int.mul_sub]
    omega
  rw [e, Int.add_mul_emod_self_left]
theorem ar_next {q st k x : Nat} (hq : 0 < q) : ar q (k + 1) x = if ar q st k < ar q st x then ar q st x - ar q st k - 1 else ar q st x - ar q st k - 1 + q := by
  have h := ar_rel (q := q) (st := st) (k := k) (x := x) 1
  have e : ar q (k + 1) x = (ar q st x - ar q st k - 1) % (q : Int) := by
    rw [← h]
    unfold ar
    rw [Int.natCast_add]
    rfl
  have a0 := ar_nn (q := q) (j := st) (x := x) hq
  have a1 := ar_lt (q := q) (j := st) (x := x) hq
  have b0 := ar_nn (q := q) (j := st) (x := k) hq
  have b1 := ar_lt (q := q) (j := st) (x := k) hq
  rw [e]
  split
  · exact Int.emod_eq_of_lt (by omega) (by omega)
  · have : (ar q st x - ar q st k - 1) % (q : Int) = (ar q st x - ar q st k - 1 + q) % (q : Int) := by rw [Int.add_emod_right]
    rw [this]
    exact Int.emod_eq_of_lt (by omega) (by omega)
theorem ar_from {q st k x : Nat} (hq : 0 < q) : ar q k x = if ar q st k ≤ ar q st x then ar q st x - ar q st k else ar q st x - ar q st k + q := by
  have h := ar_rel (q := q) (st := st) (k := k) (x := x) 0
  have e : ar q k x = (ar q st x - ar q st k) % (q : Int) := by
    rw [Int.add_zero, Int.sub_zero] at h
    exact h
  have a0 := ar_nn (q := q) (j := st) (x := x) hq
  have a1 := ar_lt (q := q) (j := st) (x := x) hq
  have b0 := ar_nn (q := q) (j := st) (x := k) hq
  have b1 := ar_lt (q := q) (j := st) (x := k) hq
  rw [e]
  split
  · exact Int.emod_eq_of_lt (by omega) (by omega)
  · have : (ar q st x - ar q st k) % (q : Int) = (ar q st x - ar q st k + q) % (q : Int) := by rw [Int.add_emod_right]
    rw [this]
    exact Int.emod_eq_of_lt (by omega) (by omega)
/-- the next one in the round order -/
theorem next_in {q h st i b c : Nat} (hq : 0 < q) (h1 : (rb q h st)[i]? = some b) (h2 : (rb q h st)[i + 1]? = some c) : (rb q h (b + 1)).head? = some c := by
  have hs := rb_sorted q h st
  have l1 := (List.getElem?_eq_some_iff.mp h1)
  have l2 := (List.getElem?_eq_some_iff.mp h2)
  obtain ⟨g1, e1⟩ := l1
  obtain ⟨g2, e2⟩ := l2
  have hbc : ar q st b < ar q st c := by
    have := List.pairwise_iff_getElem.mp hs i (i + 1) g1 g2 (Nat.lt_succ_self i)
    rw [e1, e2] at this
    exact this
  have mc : c ∈ rb q h st := e2 ▸ List.getElem_mem g2
  refine sorted_head (rb_sorted q h (b + 1)) (mem_rb.mpr (mem_rb.mp mc)) fun x hx => ?_
  have mx : x ∈ rb q h st := mem_rb.mpr (mem_rb.mp hx)
  obtain ⟨m, hm, ex⟩ := List.getElem_of_mem mx
  rw [ar_next (st := st) hq, ar_next (st := st) hq, if_pos hbc]
  have x1 := ar_lt (q := q) (j := st) (x := c) hq
  have x0 := ar_nn (q := q) (j := st) (x := x) hq
  have b1 := ar_nn (q := q) (j := st) (x := b) hq
  split
  · rename_i hlt
    have hmi : i < m := by
      refine Nat.lt_of_not_le fun l => ?_
      rcases Nat.lt_or_eq_of_le l with l | l
      · have := List.pairwise_iff_getElem.mp hs m i hm g1 l
        rw [e1, ex] at this
        omega
      · subst l
        rw [e1] at ex
        subst ex
        omega
    rcases Nat.lt_or_eq_of_le (Nat.succ_le_of_lt hmi) with l | l
    · have := List.pairwise_iff_getElem.mp hs (i + 1) m g2 hm l
      rw [e2, ex] at this
      omega
    · have : c = x := by
        rw [← e2, ← ex]
        congr 1
      rw [this]
      omega
  · omega
theorem next_end {q h st b a : Nat} (hq : 0 < q) (h1 : (rb q h st).getLast? = some b) (h2 : (rb q h st).head? = some a) : (rb q h (b + 1)).head? = some a := by
  have hs := rb_sorted q h st
  obtain ⟨mb, hb⟩ := (sorted_last hs).mp h1
  have ma : a ∈ rb q h st := List.mem_of_head? h2
  have ha : ∀ x ∈ rb q h st, ar q st a ≤ ar q st x := by
    cases e : rb q h st with
    | nil => intro x hx; exact absurd hx List.not_mem_nil
    | cons z l =>
      rw [e] at h2 hs
      have : z = a := Option.some.inj h2
      subst this
      intro x hx
      rcases List.mem_cons.mp hx with rfl | hx
      · exact Int.le_refl _
      · exact Int.le_of_lt ((List.pairwise_cons.mp hs).1 x hx)
  refine sorted_head (rb_sorted q h (b + 1)) (mem_rb.mpr (mem_rb.mp ma)) fun x hx => ?_
  have mx : x ∈ rb q h st := mem_rb.mpr (mem_rb.mp hx)
  have c1 := hb x mx
  have c2 := hb a ma
  have c3 := ha x mx
  rw [ar_next (st := st) hq, ar_next (st := st) hq]
  rw [if_neg (by omega), if_neg (by omega)]
  omega
def stp (q h t : Nat) : Int := if ar q h t = 0 then (q : Int) else ar q h t
theorem steps_sum {q st : Nat} (hq : 0 < q) : ∀ (b : Nat) (l : List Nat), b < q → (∀ x ∈ l, x < q) → st < q → (b :: l).Pairwise (fun a b => ar q st a < ar q st b) → (List.zipWith (stp q) (b :: l) (l ++ [st])).sum = q - ar q st b
  | b, [], hb, _, hst, _ => by
    show stp q b st + 0 = _
    have e := ar_from (q := q) (st := st) (k := b) (x := st) hq
    rw [ar_self] at e
    have b0 := ar_nn (q := q) (j := st) (x := b) hq
    have b1 := ar_lt (q := q) (j := st) (x := b) hq
    unfold stp
    rw [e]
    split <;> split <;> omega
  | b, c :: l, hb, hl, hst, hp => by
    obtain ⟨h1, h2⟩ := List.pairwise_cons.mp hp
    have ih := steps_sum (st := st) hq c l (hl c List.mem_cons_self) (fun x hx => hl x (List.mem_cons_of_mem _ hx)) hst h2
    show stp q b c + (List.zipWith (stp q) (c :: l) (l ++ [st])).sum = _
    rw [ih]
    have hbc := h1 c List.mem_cons_self
    have e := ar_from (q := q) (st := st) (k := b) (x := c) hq
    rw [if_pos (by omega)] at e
    unfold stp
    rw [e, if_neg (by omega)]
    omega
theorem arcs_two {q a b : Nat} (hq : 0 < q) : ar q a b + ar q b a = 0 ∨ ar q a b + ar q b a = q := by
  have e := ar_from (q := q) (st := a) (k := b) (x := a) hq
  rw [ar_self] at e
  have b0 := ar_nn (q := q) (j := a) (x := b) hq
  have b1 := ar_lt (q := q) (j := a) (x := b) hq
  rw [e]
  split <;> omega
end Bf
namespace Bf
open PySem PySem.Spec PyProof.Rows L2
/-! ### each neighbour in one tree -/
theorem cl_last_in {q d j k : Nat} (hj : j < q) (b : d.testBit j = true) : (cl q d j).getLast? = some k ↔ (k < q ∧ d.testBit k = true) ∧ ∀ x, x < q → d.testBit x = true → ar q j x ≤ ar q j k := by
  rw [cl_in hj b, sorted_last (rb_sorted q d j), mem_rb]
  constructor
  · exact fun h => ⟨h.1, fun x h1 h2 => h.2 x (mem_rb.mpr ⟨h1, h2⟩)⟩
  · exact fun h => ⟨h.1, fun x hx => h.2 x (mem_rb.mp hx).1 (mem_rb.mp hx).2⟩
theorem cl_last_out {q d j : Nat} (hj : j < q) (b : d.testBit j = false) : (cl q d j).getLast? = some j := by
  rw [cl_out hj b, List.getLast?_append, List.getLast?_singleton]
  rfl
theorem tree_one {q d j1 j2 k : Nat} (h1 : j1 < q) (h2 : j2 < q) (e1 : (cl q d j1).getLast? = some k) (e2 : (cl q d j2).getLast? = some k) : j1 = j2 := by
  have hq : 0 < q := by omega
  cases b1 : d.testBit j1 with
  | false =>
    rw [cl_last_out h1 b1] at e1
    have k1 : j1 = k := Option.some.inj e1
    cases b2 : d.testBit j2 with
    | false =>
      rw [cl_last_out h2 b2] at e2
      have k2 : j2 = k := Option.some.inj e2
      omega
    | true =>
      have := ((cl_last_in h2 b2).mp e2).1.2
      rw [← k1, b1] at this
      cases this
  | true =>
    obtain ⟨⟨hk, bk⟩, m1⟩ := (cl_last_in h1 b1).mp e1
    cases b2 : d.testBit j2 with
    | false =>
      rw [cl_last_out h2 b2] at e2
      have k2 : j2 = k := Option.some.inj e2
      rw [← k2, b2] at bk
      cases bk
    | true =>
      obtain ⟨_, m2⟩ := (cl_last_in h2 b2).mp e2
      refine Classical.byContradiction fun hne => ?_
      have x1 := m1 j2 h2 b2
      have x2 := m2 j1 h1 b1
      have f1 := ar_from (q := q) (st := j1) (k := j2) (x := k) hq
      have f2 := ar_from (q := q) (st := j1) (k := j2) (x := j1) hq
      rw [ar_self] at f2
      have c0 := ar_nn (q := q) (j := j1) (x := j2) hq
      have a1 := ar_lt (q := q) (j := j1) (x := k) hq
      have c1 : ar q j1 j2 ≠ 0 := fun z => hne (ar_inj (q := q) (j := j1) h1 h2 (by rw [ar_self, z]))
      rw [if_pos x1] at f1
      rw [if_neg (by omega)] at f2
      omega
theorem tree_some {q d k : Nat} (hd : d < 2 ^ q) (hk : k < q) : ∃ j, j < q ∧ (cl q d j).getLast? = some k := by
  have hq : 0 < q := by omega
  cases b : d.testBit k with
  | false => exact ⟨k, hk, cl_last_out hk b⟩
  | true =>
    cases e : rb q d (k + 1) with
    | nil =>
      have : k ∈ rb q d (k + 1) := mem_rb.mpr ⟨hk, b⟩
      rw [e] at this
      exact absurd this List.not_mem_nil
    | cons j l =>
      have mj : j ∈ rb q d (k + 1) := by rw [e]; exact List.mem_cons_self
      obtain ⟨hj, bj⟩ := mem_rb.mp mj
      have hs := rb_sorted q d (k + 1)
      have least : ∀ x, x < q → d.testBit x = true → ar q (k + 1) j ≤ ar q (k + 1) x := fun x hx bx => by
        have mx : x ∈ rb q d (k + 1) := mem_rb.mpr ⟨hx, bx⟩
        rw [e] at mx hs
        rcases List.mem_cons.mp mx with rfl | mx
        · exact Int.le_refl _
        · exact Int.le_of_lt ((List.pairwise_cons.mp hs).1 x mx)
      refine ⟨j, hj, (cl_last_in hj bj).mpr ⟨⟨hk, b⟩, fun x hx bx => ?_⟩⟩
      have y1 := ar_from (q := q) (st := k + 1) (k := j) (x := x) hq
      have y2 := ar_from (q := q) (st := k + 1) (k := j) (x := k) hq
      rw [if_pos (least x hx bx)] at y1
      rw [if_pos (least k hk b)] at y2
      rw [y1, y2]
      have top : ar q (k + 1) k = q - 1 := by
        have := ar_next (q := q) (st := k) (k := k) (x := k) hq
        rw [if_neg (by omega), ar_self] at this
        omega
      have := ar_lt (q := q) (j := k + 1) (x := x) hq
      omega
end Bf
namespace Bf
open PySem PySem.Spec PyProof.Rows L2 LamX NdefX
/-! ### the tree whose turn it is -/
def trF (q d k : Nat) : Nat := if d.testBit k = true then ((rb q d (k + 1)).head?).getD 0 else k
def ltF (q d k : Nat) : Nat := if d.testBit k = true then (ar q (trF q d k) k).toNat else q
theorem trF_head {q d k : Nat} (hk : k < q) (b : d.testBit k = true) : (rb q d (k + 1)).head? = some (trF q d k) := by
  unfold trF
  rw [if_pos b]
  cases e : rb q d (k + 1) with
  | nil =>
    have : k ∈ rb q d (k + 1) := mem_rb.mpr ⟨hk, b⟩
    rw [e] at this
    exact absurd this List.not_mem_nil
  | cons j l => rfl
theorem trF_out {q d k : Nat} (b : d.testBit k = false) : trF q d k = k := by
  unfold trF
  rw [b]
  rfl
theorem trF_in {q d k : Nat} (hk : k < q) (b : d.testBit k = true) : trF q d k < q ∧ d.testBit (trF q d k) = true := by
  have e := trF_head hk b
  have : trF q d k ∈ rb q d (k + 1) := List.mem_of_mem_head? (by rw [e]; rfl)
  exact mem_rb.mp this
theorem trF_lt {q d k : Nat} (hk : k < q) : trF q d k < q := by
  cases b : d.testBit k with
  | false => rw [trF_out b]; exact hk
  | true => exact (trF_in hk b).1
theorem trF_bit {q d k : Nat} (hk : k < q) : d.testBit (trF q d k) = d.testBit k := by
  cases b : d.testBit k with
  | false => rw [trF_out b]; exact b
  | true => exact (trF_in hk b).2
theorem trF_last {q d k : Nat} (hk : k < q) : (cl q d (trF q d k)).getLast? = some k := by
  have hq : 0 < q := by omega
  cases b : d.testBit k with
  | false => rw [trF_out b]; exact cl_last_out hk b
  | true =>
    obtain ⟨hj, bj⟩ := trF_in hk b
    have eh := trF_head hk b
    generalize trF q d k = j at hj bj eh
    have hs := rb_sorted q d (k + 1)
    have least : ∀ x, x < q → d.testBit x = true → ar q (k + 1) j ≤ ar q (k + 1) x := fun x hx bx => by
      have mx : x ∈ rb q d (k + 1) := mem_rb.mpr ⟨hx, bx⟩
      cases e : rb q d (k + 1) with
      | nil => rw [e] at mx; exact absurd mx List.not_mem_nil
      | cons z l =>
        rw [e] at mx hs eh
        have ez : z = j := Option.some.inj eh
        subst ez
        rcases List.mem_cons.mp mx with rfl | mx
        · exact Int.le_refl _
        · exact Int.le_of_lt ((List.pairwise_cons.mp hs).1 x mx)
    refine (cl_last_in hj bj).mpr ⟨⟨hk, b⟩, fun x hx bx => ?_⟩
    have y1 := ar_from (q := q) (st := k + 1) (k := j) (x := x) hq
    have y2 := ar_from (q := q) (st := k + 1) (k := j) (x := k) hq
    rw [if_pos (least x hx bx)] at y1
    rw [if_pos (least k hk b)] at y2
    rw [y1, y2]
    have top : ar q (k + 1) k = q - 1 := by
      have := ar_next (q := q) (st := k) (k := k) (x := k) hq
      rw [if_neg (by omega), ar_self] at this
      omega
    have := ar_lt (q := q) (j := k + 1) (x := x) hq
    omega
theorem trF_iff {q d j k : Nat} (hj : j < q) (hk : k < q) : (cl q d j).getLast? = some k ↔ j = trF q d k :=
  ⟨fun e => tree_one hj (trF_lt hk) e (trF_last hk), fun e => by rw [e]; exact trF_last hk⟩
theorem ltF_in {q d k : Nat} (hq : 0 < q) (b : d.testBit k = true) : (ltF q d k : Int) = ar q (trF q d k) k := by
  unfold ltF
  rw [if_pos b]
  exact Int.toNat_of_nonneg (ar_nn hq)
theorem ltF_out {q d k : Nat} (b : d.testBit k = false) : ltF q d k = q := by
  unfold ltF
  rw [b]
  rfl
theorem ltF_le {q d k : Nat} (hq : 0 < q) : ltF q d k ≤ q := by
  cases b : d.testBit k with
  | false => rw [ltF_out b]; exact Nat.le_refl _
  | true =>
    have h1 := ltF_in hq b
    have h2 := ar_lt (q := q) (j := trF q d k) (x := k) hq
    omega
/-! ### a hand's bits, 0 or 1 each -/
def mk (q h : Nat) : List Nat := (List.range q).map fun k => (h.testBit k).toNat
theorem mk_len (q h : Nat) : (mk q h).length = q := by
  unfold mk
  rw [List.length_map, List.length_range]
theorem mk_get {q h k : Nat} (hk : k < q) : (mk q h)[k]? = some (h.testBit k).toNat := by
  unfold mk
  rw [List.getElem?_map, List.getElem?_range hk]
  rfl
theorem mk_succ (q h : Nat) : mk (q + 1) h = mk q h ++ [(h.testBit q).toNat] := by
  unfold mk
  rw [List.range_succ, List.map_append]
  rfl
theorem bit_nat (h k : Nat) : (h.testBit k).toNat = h / 2 ^ k % 2 := by
  rw [Nat.testBit_eq_decide_div_mod_eq]
  by_cases e : h / 2 ^ k % 2 = 1
  · rw [decide_eq_true e, e]; rfl
  · rw [decide_eq_false e]
    show 0 = _
    omega
theorem mk_of {L : List Nat} {q : Nat} (hl : L.length = q) (hb : ∀ x ∈ L, x < 2) : ∃ h, h < 2 ^ q ∧ L = mk q h := by
  refine ⟨fb ((List.range q).filter fun k => decide (L[k]? = some 1)), fb_lt fun k hk => List.mem_range.mp (List.mem_filter.mp hk).1, ?_⟩
  refine List.ext_getElem? fun i => ?_
  by_cases hi : i < q
  · rw [mk_get hi]
    have hi2 : i < L.length := by omega
    have hx := hb _ (List.getElem_mem hi2)
    rw [List.getElem?_eq_getElem hi2]
    congr 1
    unfold fb
    rw [fold_bit, Nat.zero_testBit, Bool.false_or]
    by_cases e : L[i] = 1
    · rw [decide_eq_true (List.mem_filter.mpr ⟨List.mem_range.mpr hi, decide_eq_true (by rw [List.getElem?_eq_getElem hi2, e])⟩), e]
      rfl
    · rw [decide_eq_false fun z => ?_]
      · show L[i] = 0
        omega
      · have z2 := of_decide_eq_true (List.mem_filter.mp z).2
        rw [List.getElem?_eq_getElem hi2] at z2
        exact e (Option.some.inj z2)
  · rw [List.getElem?_eq_none (by omega), List.getElem?_eq_none (by rw [mk_len]; omega)]
theorem mk_small {q h x : Nat} (hx : x ∈ mk q h) : x < 2 := by
  unfold mk at hx
  obtain ⟨k, _, rfl⟩ := List.mem_map.mp hx
  cases h.testBit k <;> decide
theorem xor_bit2 (a b k : Nat) : ((a.testBit k).toNat + (b.testBit k).toNat) % 2 = ((a ^^^ b).testBit k).toNat := by
  rw [Nat.testBit_xor]
  cases a.testBit k <;> cases b.testBit k <;> rfl
/-- one bit turned -/
theorem mk_cross {q h k : Nat} (hk : k < q) : (mk q h).take k ++ [1 - (h.testBit k).toNat] ++ (mk q h).drop (k + 1) = mk q (h ^^^ 2 ^ k) := by
  refine List.ext_getElem? fun i => ?_
  have l1 : ((mk q h).take k).length = k := by rw [List.length_take, mk_len]; omega
  by_cases hi : i < q
  · rw [mk_get hi, bit_xor]
    rcases Nat.lt_trichotomy i k with c | c | c
    · rw [List.append_assoc, List.getElem?_append_left (by omega), List.getElem?_take_of_lt c, mk_get hi]
      have : ¬ k = i := by omega
      simp [this]
    · subst c
      rw [List.append_assoc, List.getElem?_append_right (by omega), l1, Nat.sub_self]
      show some (1 - (h.testBit i).toNat) = _
      cases h.testBit i <;> simp
    · rw [List.getElem?_append_right (by rw [List.length_append, l1]; show k + 1 ≤ i; omega), List.length_append, l1, List.getElem?_drop]
      have e : k + 1 + (i - (k + [1 - (h.testBit k).toNat].length)) = i := by show k + 1 + (i - (k + 1)) = i; omega
      rw [e, mk_get hi]
      have : ¬ k = i := by omega
      simp [this]
  · have z : ((mk q h).take k ++ [1 - (h.testBit k).toNat] ++ (mk q h).drop (k + 1)).length ≤ i := by
      rw [List.length_append, List.length_append, l1, List.length_drop, mk_len]
      show k + 1 + (q - (k + 1)) ≤ i
      omega
    have z2 : (mk q (h ^^^ 2 ^ k)).length ≤ i := by
      rw [mk_len]
      omega
    rw [List.getElem?_eq_none z, List.getElem?_eq_none z2]
theorem half_step (h n : Nat) : h / 2 ^ n = 2 * (h / 2 ^ (n + 1)) + h / 2 ^ n % 2 := by
  rw [Nat.pow_succ, ← Nat.div_div_eq_div_mul]
  have := Nat.div_add_mod (h / 2 ^ n) 2
  omega
/-! ### rules -/
section
variable {X : Cx}
theorem call_reprA (gd : X.A.guards = some []) (hu : X.A.units + 64 < cLine) : CallR X (.builtin "repr") (fun xs H Q => (xs = [.non] ∧ Q (.str "None") H) ∨ ∃ a d, xs = [.ref a] ∧ Dp X.K H (.ref a) d ∧ d.showable = true ∧ d.hasDict = false ∧ d.depth < 60 ∧ d.shown.length ≤ sizeLine ∧ Q (.str d.shown) H) := by
  intro pins s σ H xs us Q I r h
  rcases h with ⟨rfl, q⟩ | h
  · obtain ⟨u, rfl, ru⟩ := vals1 r
    cases ru
    exact P.repr_of_none ⟨.str "None", H, I.tok _, ⟨_, rfl⟩, q⟩
  · exact call_reprD gd hu pins s σ H xs us Q I r h
theorem op_powW : OpR X (binaryOp .Pow) (rI (fun i j => 0 ≤ j ∧ (Builtin.Int.intBits i : Int) * j ≤ 2 ^ 27) fun i j => .int (i ^ j.toNat)) := opI fun _ _ _ _ _ _ _ hc q => pow_int hc.1 hc.2 q
end
end Bf
namespace Bf
open PySem PySem.Spec PyProof.Rows L2 LamX NdefX
/-! ### more rules -/
theorem yes {σ : L2.St} {H : Hp} {A B : Hp → Prop} (h : A H) : tYes σ H (fun b H3 => if b = true then A H3 else B H3) := by
  show if true = true then A H else B H
  exact (if_pos rfl).mpr h
theorem op_fdivNN {X : Cx} : OpR X (binaryOp .FloorDiv) (fun x y H Q => ∃ n m : Nat, x = .int (n : Int) ∧ y = .int (m : Int) ∧ 0 < m ∧ m < 1073741824 ∧ Q (.int ((n / m : Nat) : Int)) H) := by
  intro pins s σ H x y v u Q I rx ry h
  obtain ⟨n, m, rfl, rfl, hm, hm2, q⟩ := h
  refine op_fdiv pins s σ H _ _ v u Q I rx ry ⟨(n : Int), (m : Int), rfl, rfl, ⟨by omega, by omega⟩, ?_⟩
  rw [Int.natCast_ediv] at q
  exact q
theorem op_mulNN {X : Cx} : OpR X (binaryOp .Mult) (fun x y H Q => ∃ n m : Nat, x = .int (n : Int) ∧ y = .int (m : Int) ∧ n < 2 ^ 63 ∧ Q (.int ((n * m : Nat) : Int)) H) := by
  intro pins s σ H x y v u Q I rx ry h
  obtain ⟨n, m, rfl, rfl, hm, q⟩ := h
  refine op_mul pins s σ H _ _ v u Q I rx ry ⟨(n : Int), (m : Int), rfl, rfl, .inl ⟨by omega, by omega⟩, ?_⟩
  rw [Int.natCast_mul] at q
  exact q
/-! ### source=0 behind a star, by any names -/
theorem kbS3 {x1 x2 x3 : Str} {K : PySem.W.Frag} {x : Str} {st : Stmt} {f : Addr} {fd : FuncData} (F : FunS K x st f fd) (h : ∀ (kV doc pm : Value) (an : Option Addr) (cdv ct a b c d : Value), bindArgs (PySem.W.fnOf x x (defArgs st) (defBody st) (defScope st) .none kV doc pm an cdv ct) ⟨[a, b, c], [(("source" : Str), d)]⟩ = pure ([(x1, a), (x2, b), (x3, c), ("source", d)] : List (Str × Value))) :
    KBinds K fd [x1, x2, x3, "source"] ["source"] g3 g3 := by
  obtain ⟨oc, od, dV, kV, doc, pm, an, cdv, ct, osl, rfl, lk, hcd, hD, hK⟩ := F.ex
  rcases hD with ⟨_, rfl⟩ | ⟨z, _⟩
  · refine ⟨fun s us ws _ hl => ?_, fun r1 r2 => g3_rel r1 r2⟩
    obtain ⟨a, b, c, d, rfl, rfl⟩ := g3_len hl
    exact .of_eq (h kV doc pm an cdv ct a b c d)
  · exact absurd rfl z
def g4 {α : Type} (us ws : List α) : List α := match us, ws with
  | [a, b, c, d], [e] => [a, b, c, d, e]
  | _, _ => []
theorem g4_rel {vs zs : List V} {us ws : List Value} (r1 : Vals vs us) (r2 : Vals zs ws) : Vals (g4 vs zs) (g4 us ws) := by
  match r1, r2 with
  | .nil, _ => exact .nil
  | .cons _ .nil, _ => exact .nil
  | .cons _ (.cons _ .nil), _ => exact .nil
  | .cons _ (.cons _ (.cons _ .nil)), _ => exact .nil
  | .cons _ (.cons _ (.cons _ (.cons _ .nil))), .nil => exact .nil
  | .cons a (.cons b (.cons c (.cons d .nil))), .cons e .nil => exact .cons a (.cons b (.cons c (.cons d (.cons e .nil))))
  | .cons _ (.cons _ (.cons _ (.cons _ .nil))), .cons _ (.cons _ _) => exact .nil
  | .cons _ (.cons _ (.cons _ (.cons _ (.cons _ _)))), _ => exact .nil
theorem g4_len {us ws : List Value} (h : (g4 us ws).length = 5) : ∃ a b c d e, us = [a, b, c, d] ∧ ws = [e] := by
  match us, ws, h with
  | [a, b, c, d], [e], _ => exact ⟨a, b, c, d, e, rfl, rfl⟩
  | [], _, h => cases h
  | [_], _, h => cases h
  | [_, _], _, h => cases h
  | [_, _, _], _, h => cases h
  | [_, _, _, _], [], h => cases h
  | [_, _, _, _], _ :: _ :: _, h => cases h
  | _ :: _ :: _ :: _ :: _ :: _, _, h => cases h
theorem kbS4 {x1 x2 x3 x4 : Str} {K : PySem.W.Frag} {x : Str} {st : Stmt} {f : Addr} {fd : FuncData} (F : FunS K x st f fd) (h : ∀ (kV doc pm : Value) (an : Option Addr) (cdv ct a b c d e : Value), bindArgs (PySem.W.fnOf x x (defArgs st) (defBody st) (defScope st) .none kV doc pm an cdv ct) ⟨[a, b, c, d], [(("source" : Str), e)]⟩ = pure ([(x1, a), (x2, b), (x3, c), (x4, d), ("source", e)] : List (Str × Value))) :
    KBinds K fd [x1, x2, x3, x4, "source"] ["source"] g4 g4 := by
  obtain ⟨oc, od, dV, kV, doc, pm, an, cdv, ct, osl, rfl, lk, hcd, hD, hK⟩ := F.ex
  rcases hD with ⟨_, rfl⟩ | ⟨z, _⟩
  · refine ⟨fun s us ws _ hl => ?_, fun r1 r2 => g4_rel r1 r2⟩
    obtain ⟨a, b, c, d, e, rfl, rfl⟩ := g4_len hl
    exact .of_eq (h kV doc pm an cdv ct a b c d e)
  · exact absurd rfl z
end Bf
namespace Bf
open PySem PySem.Spec PyProof.Rows L2 LamX NdefX
/-! ### since when -/
def farF (q d j : Nat) : Nat := (ar q j (((rb q d j).getLast?).getD 0)).toNat
def dyF (q d j : Nat) : Nat := if d.testBit j = true then farF q d j else q
def snF (q m d i : Nat) : Nat := if i + 1 = m then i + farF q d (i % q) else i + dyF q d (i % q)
theorem far_spec {q d j : Nat} (hq : 0 < q) (hd : d < 2 ^ q) (h0 : d ≠ 0) : ∃ L, (rb q d j).getLast? = some L ∧ ar q j L = (farF q d j : Int) ∧ d.testBit L = true ∧ L < q ∧ ∀ x, d.testBit x = true → ar q j x ≤ (farF q d j : Int) := by
  have hne : rb q d j ≠ [] := fun e => by
    obtain ⟨i, hi⟩ := Nat.exists_testBit_of_ne_zero h0
    have : i ∈ rb q d j := mem_rb.mpr ⟨lt_of_bit hd hi, hi⟩
    rw [e] at this
    exact absurd this List.not_mem_nil
  have e1 := List.getLast?_eq_getLast hne
  have e2 : ar q j ((rb q d j).getLast hne) = (farF q d j : Int) := by
    unfold farF
    rw [e1]
    exact (Int.toNat_of_nonneg (ar_nn hq)).symm
  obtain ⟨m1, m2⟩ := (sorted_last (rb_sorted q d j)).mp e1
  refine ⟨_, e1, e2, (mem_rb.mp m1).2, (mem_rb.mp m1).1, fun x hx => ?_⟩
  rw [← e2]
  exact m2 x (mem_rb.mpr ⟨lt_of_bit hd hx, hx⟩)
theorem far_lt {q d j : Nat} (hq : 0 < q) : farF q d j < q := by
  have h1 := ar_lt (q := q) (j := j) (x := ((rb q d j).getLast?).getD 0) hq
  have h2 := ar_nn (q := q) (j := j) (x := ((rb q d j).getLast?).getD 0) hq
  unfold farF
  omega
theorem dy_le {q d j : Nat} (hq : 0 < q) : dyF q d j ≤ q := by
  unfold dyF
  split
  · exact Nat.le_of_lt (far_lt hq)
  · exact Nat.le_refl _
theorem sn_le {q m d i : Nat} (hq : 0 < q) : snF q m d i ≤ i + q := by
  unfold snF
  split
  · have := far_lt (q := q) (d := d) (j := i % q) hq
    omega
  · have := dy_le (q := q) (d := d) (j := i % q) hq
    omega
theorem far_uniq {q d j : Nat} {v : Int} (hq : 0 < q) (hd : d < 2 ^ q) (h0 : d ≠ 0) (h1 : ∃ x, d.testBit x = true ∧ v = ar q j x) (h2 : ∀ x, d.testBit x = true → ar q j x ≤ v) : v = (farF q d j : Int) := by
  obtain ⟨L, _, e2, b, _, top⟩ := far_spec (j := j) hq hd h0
  obtain ⟨x, bx, rfl⟩ := h1
  have := top x bx
  have := h2 L b
  omega
theorem ar_modl {q j x : Nat} : ar q (j % q) x = ar q j x := by
  unfold ar
  rw [Int.natCast_emod]
  rw [Int.sub_emod, Int.emod_emod_of_dvd _ (Int.dvd_refl _), ← Int.sub_emod]
theorem far_back {q i L : Nat} (hq : 0 < q) (hL : L < q) : (((i + q - 1 : Nat) : Int) - ar q L ((i + q - 1) % q)) = (i : Int) + ar q (i % q) L := by
  have h1 := ar_next (q := q) (st := L) (k := (i + q - 1) % q) (x := L) hq
  rw [ar_self] at h1
  have nn := ar_nn (q := q) (j := L) (x := (i + q - 1) % q) hq
  rw [if_neg (by omega)] at h1
  have e : ((i + q - 1) % q + 1) % q = i % q := by
    rw [Nat.mod_add_mod, show i + q - 1 + 1 = i + q by omega, Nat.add_mod_right]
  have h2 : ar q ((i + q - 1) % q + 1) L = ar q (i % q) L := by rw [← ar_modl, e]
  rw [← h2, h1]
  omega
theorem mk_set {q h k : Nat} (hk : k < q) : (mk q h).set k (1 - (h.testBit k).toNat) = mk q (h ^^^ 2 ^ k) := by
  rw [← mk_cross hk, List.set_eq_take_append_cons_drop, if_pos (by rw [mk_len]; exact hk), List.append_assoc]
  rfl
theorem nv_set (ks : List Nat) (k v : Nat) : (nv ks).set k (.int (v : Int)) = nv (ks.set k v) := by
  unfold nv
  rw [List.map_set]
theorem no_bits {q d : Nat} (hd : d < 2 ^ q) (h : ∀ k, k < q → d.testBit k = false) : d = 0 := by
  refine Nat.eq_of_testBit_eq fun i => ?_
  rw [Nat.zero_testBit]
  cases e : d.testBit i with
  | false => rfl
  | true =>
    have := h i (lt_of_bit hd e)
    rw [e] at this
    cases this
theorem in_mk {q d : Nat} (hd : d < 2 ^ q) : inV (.int 1) (nv (mk q d)) = decide (d ≠ 0) := by
  by_cases h0 : d = 0
  · subst h0
    have : inV (.int 1) (nv (mk q 0)) = false := by
      unfold inV nv mk
      rw [List.any_map, List.any_map, List.any_eq_false]
      intro x _
      show ¬ eqV (.int (((Nat.testBit 0 x).toNat : Nat) : Int)) (.int 1) = true
      rw [Nat.zero_testBit]
      decide
    rw [this]
    rfl
  · have : inV (.int 1) (nv (mk q d)) = true := by
      obtain ⟨i, hi⟩ := Nat.exists_testBit_of_ne_zero h0
      unfold inV nv mk
      rw [List.any_map, List.any_map, List.any_eq_true]
      refine ⟨i, List.mem_range.mpr (lt_of_bit hd hi), ?_⟩
      show eqV (.int (((Nat.testBit d i).toNat : Nat) : Int)) (.int 1) = true
      rw [hi]
      rfl
    rw [this]
    exact (decide_eq_true h0).symm
theorem flat_nv (ks : List Nat) : (nv ks).all flatV = true := by
  unfold nv
  rw [List.all_map, List.all_eq_true]
  intro x _
  rfl
end Bf
namespace Bf
open PySem PySem.Spec PyProof.Rows L2 LamX NdefX
/-! ### what is heard, and first heard -/
theorem ar_add {q i e : Nat} (he : e < q) : ar q (i % q) ((i + e) % q) = (e : Int) := by
  have h := ar_at (q := q) (i % q) he
  rw [Nat.mod_add_mod] at h
  exact h
theorem arc_to {q j k : Nat} (hj : j < q) (hk : k < q) : ((j : Int) + ar q j k) % (q : Int) = k := by
  obtain ⟨i, hi, rfl⟩ := at_of j hk
  rw [ar_at j hi]
  have : ((j : Int) + (i : Int)) % (q : Int) = ((((j + i) % q : Nat)) : Int) := by
    rw [Int.natCast_emod, Int.natCast_add]
  exact this
/-- the letter heard at a beat by a hand of this set -/
def duF (q m d t : Nat) : Option Nat := if t < ltF q d (t % q) then none else some (min (t - ltF q d (t % q)) (m - 1))
theorem tree_mod {q d t : Nat} (hq : 0 < q) (b : d.testBit (t % q) = true) (h : ¬ t < ltF q d (t % q)) : (t - ltF q d (t % q)) % q = trF q d (t % q) := by
  have hk : t % q < q := Nat.mod_lt _ hq
  have h1 := ltF_in hq b
  have hj := trF_lt (d := d) hk
  generalize trF q d (t % q) = j at *
  generalize hl : ltF q d (t % q) = l at *
  -- t ≡ j + l
  have h2 := arc_to hj hk
  rw [← h1] at h2
  have h3 : (j + l) % q = t % q := by
    have : (((j + l) % q : Nat) : Int) = ((t % q : Nat) : Int) := by rw [Int.natCast_emod, Int.natCast_add]; exact h2
    exact Int.ofNat.inj this
  obtain ⟨c, hc⟩ := Nat.exists_eq_add_of_le (Nat.le_of_not_lt h)
  subst hc
  rw [Nat.add_sub_cancel_left]
  refine turn_inj (by' := l) (Nat.mod_lt _ hq) hj ?_
  rw [Nat.mod_add_mod, h3, Nat.add_comm c l]
/-- the last bit crossed on a way of a tree of the set is the farthest -/
theorem far_last {q d k : Nat} (hq : 0 < q) (hd : d < 2 ^ q) (hk : k < q) (b : d.testBit k = true) : farF q d (trF q d k) = ltF q d k := by
  have hb := (trF_in hk b).2
  have hj := (trF_in hk b).1
  have h0 : d ≠ 0 := fun e => by rw [e, Nat.zero_testBit] at b; cases b
  have e1 := trF_last (d := d) hk
  rw [cl_in hj hb] at e1
  obtain ⟨L, e2, e3, _⟩ := far_spec (j := trF q d k) hq hd h0
  rw [e1] at e2
  have : k = L := Option.some.inj e2
  subst this
  have := ltF_in hq b
  omega
/-- what comes first comes by its own beat -/
theorem due_at {q m d i : Nat} (hq : 0 < q) (hd : d < 2 ^ q) (h0 : d ≠ 0) (hi : i < m) : duF q m d (snF q m d i) = some i := by
  have hj : i % q < q := Nat.mod_lt _ hq
  obtain ⟨L, e2, e3, bL, hL, top⟩ := far_spec (j := i % q) hq hd h0
  have fl := far_lt (q := q) (d := d) (j := i % q) hq
  have eL : (i + farF q d (i % q)) % q = L := by
    have h2 := arc_to hj hL
    rw [e3] at h2
    have : (((i % q + farF q d (i % q)) % q : Nat) : Int) = (L : Int) := by rw [Int.natCast_emod, Int.natCast_add]; exact h2
    have := Int.ofNat.inj this
    rw [Nat.mod_add_mod] at this
    exact this
  unfold snF
  by_cases hl : i + 1 = m
  · rw [if_pos hl]
    unfold duF
    rw [eL]
    have hle : ltF q d L ≤ farF q d (i % q) := by
      have h1 := ltF_in hq bL
      obtain ⟨hj', bj'⟩ := trF_in hL bL
      have h2 := ar_from (q := q) (st := i % q) (k := trF q d L) (x := L) hq
      have h3 := top _ bj'
      rw [← e3] at h3
      rw [if_pos h3] at h2
      have := ar_nn (q := q) (j := i % q) (x := trF q d L) hq
      omega
    rw [if_neg (by omega)]
    congr 1
    omega
  · rw [if_neg hl]
    unfold dyF
    cases b : d.testBit (i % q) with
    | true =>
      rw [if_pos rfl]
      unfold duF
      rw [eL]
      have e4 : i % q = trF q d L := (trF_iff hj hL).mp (by rw [cl_in hj b]; exact e2)
      have e5 : ltF q d L = farF q d (i % q) := by rw [e4]; exact (far_last hq hd hL bL).symm
      rw [e5, if_neg (by omega)]
      congr 1
      omega
    | false =>
      rw [if_neg (by decide)]
      unfold duF
      rw [Nat.add_mod_right, ltF_out b, if_neg (by omega)]
      congr 1
      omega
/-- all bits of the set are crossed by then -/
theorem bits_by {q d st k x : Nat} (hq : 0 < q) (hk : k < q) (b : d.testBit k = true) (hst : (ltF q d k : Int) ≤ ar q st k) (hx : x < q) (bx : d.testBit x = true) : ar q st x ≤ ar q st k := by
  refine Classical.byContradiction fun hc => ?_
  obtain ⟨hj, bj⟩ := trF_in hk b
  have h1 := ltF_in hq b
  have eh := trF_head hk b
  have least : ar q (k + 1) (trF q d k) ≤ ar q (k + 1) x := by
    have mx : x ∈ rb q d (k + 1) := mem_rb.mpr ⟨hx, bx⟩
    have hs := rb_sorted q d (k + 1)
    cases e : rb q d (k + 1) with
    | nil => rw [e] at mx; exact absurd mx List.not_mem_nil
    | cons z l =>
      rw [e] at mx hs eh
      have ez : z = trF q d k := Option.some.inj eh
      rw [← ez]
      rcases List.mem_cons.mp mx with rfl | mx
      · exact Int.le_refl _
      · exact Int.le_of_lt ((List.pairwise_cons.mp hs).1 x mx)
  have n1 := ar_next (q := q) (st := st) (k := k) (x := x) hq
  have n2 := ar_next (q := q) (st := st) (k := k) (x := trF q d k) hq
  have n3 := ar_from (q := q) (st := st) (k := trF q d k) (x := k) hq
  have a1 := ar_lt (q := q) (j := st) (x := x) hq
  have a2 := ar_nn (q := q) (j := st) (x := trF q d k) hq
  have a3 := ar_lt (q := q) (j := st) (x := trF q d k) hq
  rw [if_pos (by omega)] at n1
  by_cases c : ar q st (trF q d k) ≤ ar q st k
  · rw [if_neg (by omega)] at n2
    omega
  · rw [if_neg c] at n3
    omega
/-- what is heard was heard by then, and who tells it had it ahead -/
theorem heard_by {q m d t i : Nat} (hq : 0 < q) (hm : 0 < m) (hd : d < 2 ^ q) (h0 : d ≠ 0) (h : duF q m d t = some i) : i < m ∧ snF q m d i ≤ t ∧ (d ^^^ 2 ^ (t % q) = 0 ∨ snF q m (d ^^^ 2 ^ (t % q)) i < t) := by
  have hk : t % q < q := Nat.mod_lt _ hq
  unfold duF at h
  split at h
  · cases h
  rename_i hlt
  have ei := Option.some.inj h
  have hd' : d ^^^ 2 ^ (t % q) < 2 ^ q := Nat.xor_lt_two_pow hd (Nat.pow_lt_pow_right (by decide) hk)
  have far' : ∀ st e, (∀ x, (d ^^^ 2 ^ (t % q)).testBit x = true → ar q st x < e) → d ^^^ 2 ^ (t % q) ≠ 0 → (farF q (d ^^^ 2 ^ (t % q)) st : Int) < e := fun st e hx hne => by
    obtain ⟨L, _, e3, bL, _, _⟩ := far_spec (j := st) hq hd' hne
    rw [← e3]
    exact hx L bL
  by_cases hlast : t - ltF q d (t % q) < m - 1
  · have ei2 : i = t - ltF q d (t % q) := by omega
    refine ⟨by omega, ?_⟩
    unfold snF
    rw [if_neg (by omega), if_neg (by omega)]
    cases b : d.testBit (t % q) with
    | true =>
      have em : i % q = trF q d (t % q) := by rw [ei2]; exact tree_mod hq b hlt
      obtain ⟨hj, bj⟩ := trF_in hk b
      have fl := far_last hq hd hk b
      unfold dyF
      rw [em, if_pos bj, fl]
      refine ⟨by omega, ?_⟩
      by_cases z : d ^^^ 2 ^ (t % q) = 0
      · exact .inl z
      refine .inr ?_
      have l1 := ltF_in hq b
      have hlt2 := far' (trF q d (t % q)) (ltF q d (t % q)) (fun x hx => ?_) z
      · have bj' : (d ^^^ 2 ^ (t % q)).testBit (trF q d (t % q)) = true := by
          rw [bit_xor, bj]
          by_cases e : t % q = trF q d (t % q)
          · exfalso
            -- the only bit
            have e0 : ltF q d (t % q) = 0 := by
              rw [← e, ar_self] at l1
              omega
            rw [e0] at hlt2
            omega
          · rw [decide_eq_false e]
            rfl
        rw [if_pos bj']
        omega
      · rw [bit_xor] at hx
        have hne : t % q ≠ x := fun e => by
          subst e
          rw [b, decide_eq_true rfl] at hx
          cases hx
        rw [decide_eq_false hne, Bool.xor_false] at hx
        have hxq := lt_of_bit hd hx
        obtain ⟨L, _, e3, _, _, top⟩ := far_spec (j := trF q d (t % q)) hq hd h0
        have h1 := top x hx
        have h2 : ar q (trF q d (t % q)) x ≠ ar q (trF q d (t % q)) (t % q) := fun e => hne (ar_inj hxq hk e).symm
        omega
    | false =>
      have l1 := ltF_out (q := q) b
      rw [l1] at hlt ei2
      have em : i % q = t % q := by
        rw [ei2]
        obtain ⟨c, hc⟩ := Nat.exists_eq_add_of_le (Nat.le_of_not_lt hlt)
        rw [hc, Nat.add_sub_cancel_left, Nat.add_mod_left]
      unfold dyF
      rw [em, b, if_neg (by decide)]
      refine ⟨by omega, .inr ?_⟩
      have bj' : (d ^^^ 2 ^ (t % q)).testBit (t % q) = true := by
        rw [bit_xor, b, decide_eq_true rfl]
        rfl
      rw [if_pos bj']
      have := far_lt (q := q) (d := d ^^^ 2 ^ (t % q)) (j := t % q) hq
      omega
  · have ei2 : i = m - 1 := by omega
    refine ⟨by omega, ?_⟩
    unfold snF
    rw [if_pos (by omega), if_pos (by omega)]
    have f1 := far_lt (q := q) (d := d) (j := i % q) hq
    have f2 := far_lt (q := q) (d := d ^^^ 2 ^ (t % q)) (j := i % q) hq
    by_cases hbig : i + q ≤ t
    · exact ⟨by omega, .inr (by omega)⟩
    cases b : d.testBit (t % q) with
    | false =>
      have l1 := ltF_out (q := q) b
      omega
    | true =>
      obtain ⟨e, he⟩ := Nat.exists_eq_add_of_le (show i ≤ t by omega)
      have heq : e < q := by omega
      have ea : ar q (i % q) (t % q) = (e : Int) := by rw [he]; exact ar_add heq
      have all : ∀ x, d.testBit x = true → ar q (i % q) x ≤ (e : Int) := fun x bx => by
        rw [← ea]
        exact bits_by hq hk b (by rw [ea]; omega) (lt_of_bit hd bx) bx
      constructor
      · obtain ⟨L, _, e3, bL, _, _⟩ := far_spec (j := i % q) hq hd h0
        have := all L bL
        omega
      · by_cases z : d ^^^ 2 ^ (t % q) = 0
        · exact .inl z
        refine .inr ?_
        have := far' (i % q) e (fun x hx => ?_) z
        · omega
        · rw [bit_xor] at hx
          have hne : t % q ≠ x := fun e => by
            subst e
            rw [b, decide_eq_true rfl] at hx
            cases hx
          rw [decide_eq_false hne, Bool.xor_false] at hx
          have h1 := all x hx
          have h2 : ar q (i % q) x ≠ ar q (i % q) (t % q) := fun e => hne (ar_inj (lt_of_bit hd hx) hk e).symm
          omega
end Bf
namespace Bf
open PySem PySem.Spec PyProof.Rows L2 LamX NdefX
/-! ### None, truths and numbers as data -/
def sd : V → PyData
  | .non => .none
  | .bl b => .bool b
  | .int n => .int n
  | _ => .none
def SmV (v : V) : Prop := v = .non ∨ (∃ b, v = .bl b) ∨ ∃ n : Nat, n < 2 ^ 61 ∧ v = .int (n : Int)
theorem SmV.non : SmV .non := .inl rfl
theorem SmV.bl (b : Bool) : SmV (.bl b) := .inr (.inl ⟨b, rfl⟩)
theorem SmV.int {n : Nat} (h : n < 2 ^ 61) : SmV (.int (n : Int)) := .inr (.inr ⟨n, h, rfl⟩)
theorem SmV.dp {K : PySem.W.Frag} {H : Hp} {v : V} (h : SmV v) : Dp K H v (sd v) := by
  rcases h with rfl | ⟨b, rfl⟩ | ⟨n, _, rfl⟩
  · exact .non
  · exact .bl _
  · exact .int _
theorem sm_dp {K : PySem.W.Frag} {H : Hp} : ∀ vs : List V, (∀ v ∈ vs, SmV v) → DpAll K H vs (vs.map sd)
  | [], _ => .nil
  | v :: vs, h => .cons (h v List.mem_cons_self).dp (sm_dp vs fun x hx => h x (List.mem_cons_of_mem _ hx))
theorem sm_show : ∀ vs : List V, (∀ v ∈ vs, SmV v) → PyData.showableAll (vs.map sd) = true ∧ PyData.hasDictAll (vs.map sd) = false ∧ PyData.depthAll (vs.map sd) ≤ 1 ∧ PyData.leavesShortAll 64 (vs.map sd) = true ∧ PyData.weightAll (vs.map sd) ≤ 63 * vs.length
  | [], _ => ⟨rfl, rfl, by simp [PyData.depthAll], rfl, Nat.le_refl _⟩
  | v :: vs, h => by
    obtain ⟨i1, i2, i3, i4, i5⟩ := sm_show vs fun x hx => h x (List.mem_cons_of_mem _ hx)
    have hv : PyData.showable (sd v) = true ∧ PyData.hasDict (sd v) = false ∧ PyData.depth (sd v) ≤ 1 ∧ PyData.leavesShort 64 (sd v) = true ∧ PyData.weight (sd v) ≤ 62 := by
      rcases h v List.mem_cons_self with rfl | ⟨b, rfl⟩ | ⟨n, hn, rfl⟩
      · exact ⟨rfl, rfl, by decide, by decide, by decide⟩
      · cases b
        · exact ⟨rfl, rfl, by decide, by decide, by decide⟩
        · exact ⟨rfl, rfl, by decide, by decide, by decide⟩
      · have z1 := nd_show [n] (fun x hx => by rw [List.mem_singleton.mp hx]; exact hn)
        have z4 := nd_leaves [n] (fun x hx => by rw [List.mem_singleton.mp hx]; exact hn)
        have z5 := nd_weight [n] (fun x hx => by rw [List.mem_singleton.mp hx]; exact hn)
        have w1 : (PyData.showable (.int (n : Int)) && true) = true := z1
        have w4 : (PyData.leavesShort 64 (.int (n : Int)) && true) = true := z4
        have w5 : PyData.weight (.int (n : Int)) + 1 + 0 ≤ 63 * 1 := z5
        rw [Bool.and_true] at w1 w4
        exact ⟨w1, rfl, by show PyData.depth (.int (n : Int)) ≤ 1; simp [PyData.depth], w4, by show PyData.weight (.int (n : Int)) ≤ 62; omega⟩
    obtain ⟨h1, h2, h3, h4, h5⟩ := hv
    refine ⟨?_, ?_, ?_, ?_, ?_⟩
    · show (PyData.showable (sd v) && PyData.showableAll (vs.map sd)) = true
      rw [h1, i1]; rfl
    · show (PyData.hasDict (sd v) || PyData.hasDictAll (vs.map sd)) = false
      rw [h2, i2]; rfl
    · show max (PyData.depth (sd v)) (PyData.depthAll (vs.map sd)) ≤ 1
      omega
    · show (PyData.leavesShort 64 (sd v) && PyData.leavesShortAll 64 (vs.map sd)) = true
      rw [h4, i4]; rfl
    · show PyData.weight (sd v) + 1 + PyData.weightAll (vs.map sd) ≤ 63 * (vs.length + 1)
      omega
theorem sm_rep {vs : List V} (h : ∀ v ∈ vs, SmV v) (hl : vs.length ≤ 1000) : (PyData.list (vs.map sd)).showable = true ∧ (PyData.list (vs.map sd)).hasDict = false ∧ (PyData.list (vs.map sd)).depth < 60 ∧ (PyData.list (vs.map sd)).shown.length ≤ sizeLine := by
  obtain ⟨i1, i2, i3, i4, i5⟩ := sm_show vs h
  refine ⟨i1, i2, ?_, ?_⟩
  · show PyData.depthAll (vs.map sd) + 1 < 60
    omega
  · have h1 := PyData.shown_le 64 (by decide) (.list (vs.map sd)) i4
    have h2 : PyData.weight (.list (vs.map sd)) ≤ 63 * vs.length := i5
    rw [sizeLine_eq]
    have h3 : (64 + 2) * PyData.weight (.list (vs.map sd)) ≤ 66 * (63 * 1000) := Nat.mul_le_mul (by decide) (by omega)
    omega
/-- repr of None or a number -/
theorem call_reprO {X : Cx} : CallR X (.builtin "repr") (fun xs H Q => (xs = [.non] ∧ Q (.str "None") H) ∨ ∃ i : Int, xs = [.int i] ∧ i.natAbs.log2 < 1920 ∧ Q (.str (toString i)) H) := by
  intro pins s σ H xs us Q I r h
  rcases h with ⟨rfl, q⟩ | h
  · obtain ⟨u, rfl, ru⟩ := vals1 r
    cases ru
    exact P.repr_of_none ⟨.str "None", H, I.tok _, ⟨_, rfl⟩, q⟩
  · exact call_reprN pins s σ H xs us Q I r h
theorem rd_ifV {tt : TT} {ta tb : TE} {σ : L2.St} {H : Hp} {Q : VK} (b : Bool) (v : V) (h0 : ∀ Q' : Bool → Hp → Prop, Q' b H → tt σ H Q') (h1 : b = true → Gives ta σ H v) (h2 : b = false → Gives tb σ H v) (h : Q v H) : tIf tt ta tb σ H Q := by
  refine h0 _ ?_
  cases b with
  | true => exact iteT (h1 rfl _ h)
  | false => exact iteF (h2 rfl _ h)
theorem rd_ifF {tt : TT} {A B : TS} {D : Ends} {σ : L2.St} {H : Hp} (h0 : ∀ Q' : Bool → Hp → Prop, Q' false H → tt σ H Q') (h : B D σ H) : tIfS tt A B D σ H := h0 _ (iteF h)
/-! ### the last beat -/
def lbF (q m d : Nat) : Nat := if m = 1 then snF q m d 0 else m - 2 + q
theorem lb_top {q m d i : Nat} (hq : 0 < q) (hi : i < m) : snF q m d i ≤ lbF q m d := by
  unfold lbF
  by_cases e : m = 1
  · rw [if_pos e]
    have : i = 0 := by omega
    subst this
    exact Nat.le_refl _
  · rw [if_neg e]
    unfold snF
    have h1 := far_lt (q := q) (d := d) (j := i % q) hq
    have h2 := dy_le (q := q) (d := d) (j := i % q) hq
    split <;> omega
theorem lb_is {q m d : Nat} (hq : 0 < q) (hm : 0 < m) (hd : d < 2 ^ q) (h0 : d ≠ 0) : ∃ i, i < m ∧ snF q m d i = lbF q m d := by
  unfold lbF
  by_cases e : m = 1
  · rw [if_pos e]
    exact ⟨0, by omega, rfl⟩
  · rw [if_neg e]
    cases b : d.testBit ((m - 2) % q) with
    | false =>
      refine ⟨m - 2, by omega, ?_⟩
      unfold snF dyF
      rw [if_neg (by omega), b]
      rfl
    | true =>
      refine ⟨m - 1, by omega, ?_⟩
      unfold snF
      rw [if_pos (by omega)]
      obtain ⟨L, _, e3, _, _, top⟩ := far_spec (j := (m - 1) % q) hq hd h0
      have h1 := top _ b
      have h2 := far_lt (q := q) (d := d) (j := (m - 1) % q) hq
      have e4 : ar q ((m - 1) % q) ((m - 2) % q) = (q : Int) - 1 := by
        have h3 := ar_add (q := q) (i := m - 1) (e := q - 1) (by omega)
        have e5 : (m - 1 + (q - 1)) % q = (m - 2) % q := by
          rw [show m - 1 + (q - 1) = m - 2 + q by omega, Nat.add_mod_right]
        rw [e5] at h3
        omega
      omega
theorem lb_one {q d : Nat} (hq : 0 < q) (hd : d < 2 ^ q) (h0 : d ≠ 0) : lbF q 1 d ≤ q - 1 ∧ (d.testBit (q - 1) = true → lbF q 1 d = q - 1) := by
  unfold lbF snF
  rw [if_pos rfl, if_pos rfl, Nat.zero_mod, Nat.zero_add]
  have h2 := far_lt (q := q) (d := d) (j := 0) hq
  refine ⟨by omega, fun b => ?_⟩
  obtain ⟨L, _, e3, _, _, top⟩ := far_spec (j := 0) hq hd h0
  have h1 := top _ b
  have h3 := ar_at (q := q) 0 (i := q - 1) (by omega)
  rw [Nat.zero_add, Nat.mod_eq_of_lt (by omega)] at h3
  omega
end Bf
namespace Bf
open PySem PySem.Spec PyProof.Rows L2 LamX NdefX
/-! ### each letter once -/
theorem heard_once {q m d t i : Nat} (hq : 0 < q) (hm : 0 < m) (hd : d < 2 ^ q) (h0 : d ≠ 0) (hi : i + 1 < m) (h : duF q m d t = some i) : snF q m d i = t := by
  have hk : t % q < q := Nat.mod_lt _ hq
  unfold duF at h
  split at h
  · cases h
  rename_i hlt
  have ei := Option.some.inj h
  have ei2 : i = t - ltF q d (t % q) := by omega
  unfold snF
  rw [if_neg (by omega)]
  cases b : d.testBit (t % q) with
  | true =>
    have em : i % q = trF q d (t % q) := by rw [ei2]; exact tree_mod hq b hlt
    obtain ⟨hj, bj⟩ := trF_in hk b
    have fl := far_last hq hd hk b
    unfold dyF
    rw [em, if_pos bj, fl]
    omega
  | false =>
    have l1 := ltF_out (q := q) b
    rw [l1] at hlt ei2
    have em : i % q = t % q := by
      rw [ei2]
      obtain ⟨c, hc⟩ := Nat.exists_eq_add_of_le (Nat.le_of_not_lt hlt)
      rw [hc, Nat.add_sub_cancel_left, Nat.add_mod_left]
    unfold dyF
    rw [em, b, if_neg (by decide)]
    omega
/-- the beats of a stretch at which a letter is heard -/
def onL (q m d i lo n : Nat) : List Nat := ((List.range n).map fun r => lo + r).filter fun t => decide (duF q m d t = some i)
theorem onL_succ (q m d i lo n : Nat) : onL q m d i lo (n + 1) = onL q m d i lo n ++ (if duF q m d (lo + n) = some i then [lo + n] else []) := by
  unfold onL
  rw [List.range_succ, List.map_append, List.filter_append]
  by_cases e : duF q m d (lo + n) = some i <;> simp [e]
theorem onL_len (q m d i lo n : Nat) : (onL q m d i lo n).length ≤ n := by
  unfold onL
  have := List.length_filter_le (fun t => decide (duF q m d t = some i)) ((List.range n).map fun r => lo + r)
  rw [List.length_map, List.length_range] at this
  exact this
theorem onL_mem {q m d i lo n t : Nat} : t ∈ onL q m d i lo n ↔ (lo ≤ t ∧ t < lo + n) ∧ duF q m d t = some i := by
  unfold onL
  rw [List.mem_filter, List.mem_map]
  constructor
  · rintro ⟨⟨r, hr, rfl⟩, hp⟩
    have := List.mem_range.mp hr
    exact ⟨⟨by omega, by omega⟩, of_decide_eq_true hp⟩
  · rintro ⟨⟨h1, h2⟩, hp⟩
    exact ⟨⟨t - lo, List.mem_range.mpr (by omega), by omega⟩, decide_eq_true hp⟩
theorem onL_sorted (q m d i lo n : Nat) : (onL q m d i lo n).Pairwise (fun (a b : Nat) => (a : Int) < (b : Int)) := by
  unfold onL
  refine List.Pairwise.filter _ ?_
  rw [List.pairwise_map]
  exact List.pairwise_lt_range.imp fun {a b} h => by omega
theorem on_one {q m d i : Nat} (hq : 0 < q) (hd : d < 2 ^ q) (h0 : d ≠ 0) (hi : i + 1 < m) : onL q m d i (i - 2) (i + q + 2 - (i - 2)) = [snF q m d i] := by
  refine uniq_sorted (key := fun n : Nat => (n : Int)) (onL_sorted ..) (List.pairwise_singleton _ _) fun x => ?_
  rw [onL_mem, List.mem_singleton]
  constructor
  · exact fun h => (heard_once hq (by omega) hd h0 hi h.2).symm
  · rintro rfl
    have h1 := due_at (m := m) hq hd h0 (show i < m by omega)
    have h2 := sn_le (q := q) (m := m) (d := d) (i := i) hq
    have h3 : i ≤ snF q m d i := by
      unfold snF
      split <;> omega
    exact ⟨⟨by omega, by omega⟩, h1⟩
theorem due_late {q m d t : Nat} (hq : 0 < q) (hm : 0 < m) (ht : m - 1 + q ≤ t) : duF q m d t = some (m - 1) := by
  unfold duF
  have := ltF_le (q := q) (d := d) (k := t % q) hq
  rw [if_neg (by omega)]
  congr 1
  omega
theorem on_last {q m d i : Nat} (hq : 0 < q) (hd : d < 2 ^ q) (h0 : d ≠ 0) (hi : i + 1 = m) : ∃ l, onL q m d i (i - 2) (i + q + 2 - (i - 2)) = snF q m d i :: l := by
  have h1 := due_at (m := m) hq hd h0 (show i < m by omega)
  have h2 := sn_le (q := q) (m := m) (d := d) (i := i) hq
  have h3 : i ≤ snF q m d i := by
    unfold snF
    split <;> omega
  have hmem : snF q m d i ∈ onL q m d i (i - 2) (i + q + 2 - (i - 2)) := onL_mem.mpr ⟨⟨by omega, by omega⟩, h1⟩
  have hs := onL_sorted q m d i (i - 2) (i + q + 2 - (i - 2))
  cases e : onL q m d i (i - 2) (i + q + 2 - (i - 2)) with
  | nil => rw [e] at hmem; exact absurd hmem List.not_mem_nil
  | cons a l =>
    have ha : a ∈ onL q m d i (i - 2) (i + q + 2 - (i - 2)) := by rw [e]; exact List.mem_cons_self
    have hle := (heard_by hq (by omega) hd h0 (onL_mem.mp ha).2).2.1
    rw [e] at hmem hs
    rcases List.mem_cons.mp hmem with e1 | e1
    · exact ⟨l, by rw [e1]⟩
    · have := (List.pairwise_cons.mp hs).1 _ e1
      omega
theorem on_late {q m d i : Nat} (hq : 0 < q) (hi : i + 1 = m) : (onL q m d i (i - 2) (i + q + 2 - (i - 2))).filter (fun t => decide (i + q ≤ t)) = [i + q, i + q + 1] := by
  refine uniq_sorted (key := fun n : Nat => (n : Int)) (List.Pairwise.filter _ (onL_sorted ..)) (by simp) fun x => ?_
  rw [List.mem_filter, onL_mem]
  have em : m - 1 = i := by omega
  constructor
  · rintro ⟨⟨⟨h1, h2⟩, _⟩, h3⟩
    have := of_decide_eq_true h3
    have : x = i + q ∨ x = i + q + 1 := by omega
    rcases this with rfl | rfl <;> simp
  · intro h
    have : x = i + q ∨ x = i + q + 1 := by simpa using h
    have hd2 := due_late (q := q) (m := m) (d := d) (t := x) hq (by omega) (by omega)
    rw [em] at hd2
    exact ⟨⟨⟨by omega, by omega⟩, hd2⟩, decide_eq_true (by omega)⟩
end Bf
namespace Bf
open PySem PySem.Spec PyProof.Rows L2
/-! ### ways grow -/
theorem tp_bit {q d j n : Nat} (hj : j < q) (hn : n < q) : tp q (d ^^^ 2 ^ j) j n = tp q d j n := by
  unfold tp
  refine List.filter_congr fun x hx => ?_
  obtain ⟨i, hi, rfl⟩ := List.mem_map.mp hx
  have hi := List.mem_range.mp hi
  have ea := ar_at (q := q) (i := 1 + i) j (by omega)
  have hne : ¬ j = (j + (1 + i)) % q := fun z => by
    rw [← z, ar_self] at ea
    omega
  rw [bit_xor, decide_eq_false hne, Bool.xor_false]
theorem grow {q d j k : Nat} (hj : j < q) (hk : k < q) (hd : d < 2 ^ q) (hr : Hr q d j k) : (d = 0 → k = j ∧ cl q (d ^^^ 2 ^ k) j = [k]) ∧ (d ≠ 0 → cl q (d ^^^ 2 ^ k) j = cl q d j ++ [k]) := by
  have hq : 0 < q := by omega
  rcases (hr_iff hj hk hd).mp hr with ⟨rfl, h⟩ | ⟨b, hne, hlt⟩
  · constructor
    · intro e
      subst e
      refine ⟨rfl, ?_⟩
      have b1 : (0 ^^^ 2 ^ k).testBit k = true := by rw [bit_xor, Nat.zero_testBit, decide_eq_true rfl]; rfl
      have e1 : tp q (0 ^^^ 2 ^ k) k (q - 1) = tp q 0 k (q - 1) := tp_bit hj (by omega)
      have e2 : tp q 0 k (q - 1) = [] := by
        unfold tp
        simp
      unfold cl
      rw [b1, e1, e2]
      rfl
    · intro e
      have b : d.testBit k = true := h.resolve_left e
      have b1 : (d ^^^ 2 ^ k).testBit k = false := by rw [bit_xor, b, decide_eq_true rfl]; rfl
      have e1 : tp q (d ^^^ 2 ^ k) k (q - 1) = tp q d k (q - 1) := tp_bit hj (by omega)
      unfold cl
      rw [b1, b, e1]
      simp
  · have e0 : d ≠ 0 := fun z => by
      rw [z, Nat.zero_testBit] at b
      cases b
    refine ⟨fun z => absurd z e0, fun _ => ?_⟩
    have hkj : ¬ k = j := hne
    have b1 : (d ^^^ 2 ^ k).testBit j = true := by rw [bit_xor, b, decide_eq_false hkj]; rfl
    have bk : d.testBit k = false := by
      cases z : d.testBit k with
      | false => rfl
      | true => exact absurd (hlt k z) (Int.lt_irrefl _)
    rw [cl_in hj b1, cl_in hj b]
    refine uniq_sorted (key := fun x => ar q j x) (rb_sorted q _ j) ?_ fun x => ?_
    · refine List.pairwise_append.mpr ⟨rb_sorted q d j, List.pairwise_singleton _ _, fun x hx y hy => ?_⟩
      rw [List.mem_singleton.mp hy]
      exact hlt x (mem_rb.mp hx).2
    · rw [List.mem_append, List.mem_singleton, mem_rb, mem_rb, bit_xor]
      by_cases e : k = x
      · subst e
        rw [bk, decide_eq_true rfl]
        simp [hk]
      · rw [decide_eq_false e, Bool.xor_false]
        simp [Ne.symm (show k ≠ x from e)]
/-- back by the last crossing -/
theorem back {q d j : Nat} (hj : j < q) (hd : d < 2 ^ q) : ∃ k, k < q ∧ (cl q d j).getLast? = some k ∧ Hr q (d ^^^ 2 ^ k) j k ∧ d ^^^ 2 ^ k < 2 ^ q ∧ d = (d ^^^ 2 ^ k) ^^^ 2 ^ k := by
  have hne := cl_ne q d j
  have e2 : ∀ k, (d ^^^ 2 ^ k) ^^^ 2 ^ k = d := fun k => by rw [Nat.xor_assoc, Nat.xor_self, Nat.xor_zero]
  have hk : (cl q d j).getLast hne < q := cl_lt hj (List.getLast_mem hne)
  refine ⟨_, hk, List.getLast?_eq_getLast hne, ?_, Nat.xor_lt_two_pow hd (Nat.pow_lt_pow_right (by decide) hk), (e2 _).symm⟩
  unfold Hr
  rw [e2]
  exact List.getLast?_eq_getLast hne
/-- the part up to each hand on a way is that hand's own way -/
theorem part {q j : Nat} (hj : j < q) : ∀ (n : Nat) (d : Nat), d < 2 ^ q → (cl q d j).length = n → ∀ i, 1 ≤ i → i ≤ n → wf 0 ((cl q d j).take i) < 2 ^ q ∧ cl q (wf 0 ((cl q d j).take i)) j = (cl q d j).take i
  | 0, d, hd, hl, i, h1, h2 => absurd h1 (by omega)
  | n + 1, d, hd, hl, i, h1, h2 => by
    by_cases e : i = n + 1
    · rw [e, ← hl, List.take_length, wf_cl hj hd, Nat.zero_xor]
      exact ⟨hd, rfl⟩
    · obtain ⟨k, hk, _, hr, hd', ed⟩ := back hj hd
      obtain ⟨g1, g2⟩ := grow hj hk hd' hr
      rw [← ed] at g1 g2
      by_cases z : d ^^^ 2 ^ k = 0
      · obtain ⟨_, g⟩ := g1 z
        rw [g] at hl
        have : n = 0 := by
          have : (1 : Nat) = n + 1 := hl
          omega
        omega
      · have g := g2 z
        have hl2 : (cl q (d ^^^ 2 ^ k) j).length = n := by
          rw [g, List.length_append] at hl
          exact Nat.succ.inj hl
        have ih := part hj n (d ^^^ 2 ^ k) hd' hl2 i h1 (by omega)
        have et : (cl q d j).take i = (cl q (d ^^^ 2 ^ k) j).take i := by
          rw [g, List.take_append_of_le_length (by omega)]
        rw [et]
        exact ih
theorem wl_map (s : Nat) (ks : List Nat) (c : Nat) : (wl s ks).drop c = ((List.range (ks.length + 1)).drop c).map fun i => wf s (ks.take i) := by
  unfold wl
  rw [List.map_drop]
theorem wf_part {q d j s i : Nat} (hj : j < q) (hd : d < 2 ^ q) (h1 : 1 ≤ i) (h2 : i ≤ (cl q d j).length) : cl q (wf s ((cl q d j).take i) ^^^ s) j = (cl q d j).take i := by
  have := (part hj _ d hd rfl i h1 h2).2
  rw [wf_xor, Nat.xor_comm s, Nat.xor_assoc, Nat.xor_self, Nat.xor_zero]
  exact this
/-- a hand on two ways is come to by one part -/
theorem meet {q j s d1 d2 i i' : Nat} (hj : j < q) (h1 : d1 < 2 ^ q) (h2 : d2 < 2 ^ q) (hi : i ≤ (cl q d1 j).length) (hi' : i' ≤ (cl q d2 j).length) (e : wf s ((cl q d1 j).take i) = wf s ((cl q d2 j).take i')) (hs : wf s ((cl q d1 j).take i) ≠ s) :
    i = i' ∧ (cl q d1 j).take i = (cl q d2 j).take i' := by
  have p1 : 1 ≤ i := by
    rcases Nat.eq_zero_or_pos i with z | z
    · rw [z] at hs
      exact absurd rfl hs
    · exact z
  have p2 : 1 ≤ i' := by
    rcases Nat.eq_zero_or_pos i' with z | z
    · rw [e, z] at hs
      exact absurd rfl hs
    · exact z
  have t1 := wf_part (s := s) hj h1 p1 hi
  have t2 := wf_part (s := s) hj h2 p2 hi'
  rw [e] at t1
  have t : (cl q d1 j).take i = (cl q d2 j).take i' := t1.symm.trans t2
  have l := congrArg List.length t
  rw [List.length_take, List.length_take] at l
  exact ⟨by omega, t⟩
theorem ends_one {q j s d c : Nat} (hj : j < q) (hd : d < 2 ^ q) : (((wl s (cl q d j)).drop c).filter fun x => !decide (x = s)).Nodup := by
  rw [wl_map, List.filter_map]
  unfold List.Nodup
  rw [List.pairwise_map]
  have hp : (((List.range ((cl q d j).length + 1)).drop c).filter ((fun x => !decide (x = s)) ∘ fun i => wf s ((cl q d j).take i))).Pairwise (· < ·) := List.Pairwise.filter _ (List.Pairwise.drop List.pairwise_lt_range)
  refine hp.imp_of_mem fun {a b} ha hb hab e => ?_
  obtain ⟨ha1, ha2⟩ := List.mem_filter.mp ha
  obtain ⟨hb1, _⟩ := List.mem_filter.mp hb
  have ha1 := List.mem_range.mp (List.mem_of_mem_drop ha1)
  have hb1 := List.mem_range.mp (List.mem_of_mem_drop hb1)
  have hne : wf s ((cl q d j).take a) ≠ s := by simpa using ha2
  have := (meet hj hd hd (by omega) (by omega) e hne).1
  omega
theorem ends_two {q j s d1 d2 c : Nat} (hj : j < q) (h1 : d1 < 2 ^ q) (h2 : d2 < 2 ^ q) (hm : ¬ (c < (cl q d1 j).length + 1 ∧ c < (cl q d2 j).length + 1 ∧ wf s ((cl q d1 j).take c) = wf s ((cl q d2 j).take c))) :
    (((wl s (cl q d1 j)).drop c ++ (wl s (cl q d2 j)).drop c).filter fun x => !decide (x = s)).Nodup := by
  rw [List.filter_append]
  refine List.nodup_append.mpr ⟨ends_one hj h1, ends_one hj h2, fun x hx y hy e => ?_⟩
  subst e
  obtain ⟨hx1, hx2⟩ := List.mem_filter.mp hx
  obtain ⟨hy1, _⟩ := List.mem_filter.mp hy
  have hne : x ≠ s := by simpa using hx2
  rw [wl_map] at hx1 hy1
  obtain ⟨i, hi, ei⟩ := List.mem_map.mp hx1
  obtain ⟨i', hi', ei'⟩ := List.mem_map.mp hy1
  have hir := List.mem_range.mp (List.mem_of_mem_drop hi)
  have hir' := List.mem_range.mp (List.mem_of_mem_drop hi')
  have hci : c ≤ i := by
    obtain ⟨m, hm1, e⟩ := List.mem_drop_iff_getElem.mp hi
    rw [List.getElem_range] at e
    omega
  obtain ⟨e1, e2⟩ := meet hj h1 h2 (by omega) (by omega) (ei.trans ei'.symm) (by rw [ei]; exact hne)
  refine hm ⟨by omega, by omega, ?_⟩
  have t : (cl q d1 j).take c = (cl q d2 j).take c := by
    have := congrArg (List.take c) e2
    rw [List.take_take, List.take_take, Nat.min_eq_left hci, Nat.min_eq_left (by omega)] at this
    exact this
  rw [t]
theorem wl_take {s : Nat} {ks : List Nat} {i : Nat} (h : i ≤ ks.length) : (wl s ks).take (i + 1) = wl s (ks.take i) := by
  unfold wl
  rw [← List.map_take, List.take_range, List.length_take, Nat.min_eq_left h, Nat.min_eq_left (by omega)]
  refine List.map_congr_left fun m hm => ?_
  have := List.mem_range.mp hm
  rw [List.take_take, Nat.min_eq_left (by omega)]
theorem wl_init {s : Nat} {ks : List Nat} (h : ks ≠ []) : (wl s ks).dropLast = wl s ks.dropLast := by
  have hl : 1 ≤ ks.length := List.length_pos_iff.mpr h
  rw [List.dropLast_eq_take, wl_len, List.dropLast_eq_take]
  have e : ks.length + 1 - 1 = (ks.length - 1) + 1 := by omega
  rw [e, wl_take (by omega)]
end Bf
namespace Bf
open PySem PySem.Spec PyProof.Rows L2
/-! ### all hands by hearers (for k11) -/
def tl (q j s x : Nat) : Nat := x ^^^ 2 ^ ((cl q (x ^^^ s) j).getLast (cl_ne _ _ _))
theorem hears_tl {q j s h x : Nat} (hj : j < q) (hh : h < 2 ^ q) : (∃ k, k < q ∧ x = h ^^^ 2 ^ k ∧ Hr q (h ^^^ s) j k) ↔ x < 2 ^ q ∧ tl q j s x = h := by
  constructor
  · rintro ⟨k, hk, rfl, hr⟩
    refine ⟨Nat.xor_lt_two_pow hh (Nat.pow_lt_pow_right (by decide) hk), ?_⟩
    have e1 : h ^^^ 2 ^ k ^^^ s = h ^^^ s ^^^ 2 ^ k := by rw [Nat.xor_assoc, Nat.xor_comm (2 ^ k) s, ← Nat.xor_assoc]
    have e2 : (cl q (h ^^^ 2 ^ k ^^^ s) j).getLast (cl_ne _ _ _) = k := by
      have h1 : (cl q (h ^^^ 2 ^ k ^^^ s) j).getLast? = some k := by rw [e1]; exact hr
      rw [List.getLast?_eq_getLast (cl_ne _ _ _)] at h1
      exact Option.some.inj h1
    unfold tl
    rw [e2, Nat.xor_assoc, Nat.xor_self, Nat.xor_zero]
  · rintro ⟨hx, rfl⟩
    have hk : (cl q (x ^^^ s) j).getLast (cl_ne _ _ _) < q := cl_lt hj (List.getLast_mem _)
    generalize hk0 : (cl q (x ^^^ s) j).getLast (cl_ne _ _ _) = k at hk
    have et : tl q j s x = x ^^^ 2 ^ k := by
      unfold tl
      rw [hk0]
    refine ⟨k, hk, by rw [et, Nat.xor_assoc, Nat.xor_self, Nat.xor_zero], ?_⟩
    unfold Hr
    have e1 : tl q j s x ^^^ s ^^^ 2 ^ k = x ^^^ s := by
      rw [et, Nat.xor_assoc x, Nat.xor_comm (2 ^ k) s, ← Nat.xor_assoc x, Nat.xor_assoc (x ^^^ s), Nat.xor_self, Nat.xor_zero]
    rw [e1, List.getLast?_eq_getLast (cl_ne _ _ _), hk0]
theorem reach {q j s : Nat} (hj : j < q) (hs : s < 2 ^ q) {P : Nat → Prop} (h0 : P s) (hP : ∀ h x, P h → x < 2 ^ q → tl q j s x = h → x ≠ s → P x) : ∀ (n x : Nat), x < 2 ^ q → (cl q (x ^^^ s) j).length ≤ n → x ≠ s → P x
  | 0, x, hx, hl, _ => absurd (List.length_pos_iff.mpr (cl_ne q (x ^^^ s) j)) (by omega)
  | n + 1, x, hx, hl, hne => by
    have hd : x ^^^ s < 2 ^ q := Nat.xor_lt_two_pow hx hs
    obtain ⟨k, hk, hlast, hr, hd', ed⟩ := back hj hd
    have et : tl q j s x = x ^^^ 2 ^ k := by
      rw [List.getLast?_eq_getLast (cl_ne _ _ _)] at hlast
      unfold tl
      rw [Option.some.inj hlast]
    have e1 : x ^^^ 2 ^ k ^^^ s = x ^^^ s ^^^ 2 ^ k := by rw [Nat.xor_assoc, Nat.xor_comm (2 ^ k) s, ← Nat.xor_assoc]
    refine hP (tl q j s x) x ?_ hx rfl hne
    rw [et]
    by_cases z : x ^^^ 2 ^ k = s
    · rw [z]
      exact h0
    · have z2 : x ^^^ s ^^^ 2 ^ k ≠ 0 := fun y => z (by
        rw [← e1] at y
        have := congrArg (· ^^^ s) y
        simpa [Nat.xor_assoc] using this)
      have g := (grow hj hk hd' hr).2 z2
      rw [← ed] at g
      refine reach hj hs h0 hP n (x ^^^ 2 ^ k) (Nat.xor_lt_two_pow hx (Nat.pow_lt_pow_right (by decide) hk)) ?_ z
      rw [e1]
      rw [g, List.length_append] at hl
      have : (cl q (x ^^^ s ^^^ 2 ^ k) j).length + 1 ≤ n + 1 := hl
      omega
theorem tl_root {q j s : Nat} (hj : j < q) : tl q j s s = s ^^^ 2 ^ j := by
  unfold tl
  have e : (cl q (s ^^^ s) j).getLast? = some j := by
    rw [Nat.xor_self]
    exact cl_last_out hj (Nat.zero_testBit j)
  rw [List.getLast?_eq_getLast (cl_ne _ _ _)] at e
  rw [Option.some.inj e]
end Bf
namespace Bf
open PySem PySem.Spec PyProof.Rows L2
/-! ### delays counted (for k11) -/
def dlF (q d j : Nat) : Nat := if d.testBit j = true then (((List.range q).filter fun i => d.testBit ((j + i) % q)).getLast?).getD 0 else q
theorem dlF_is {q d j r : Nat} (h1 : d.testBit j = true → ∃ l, (rb q d j).getLast? = some l ∧ ar q j l = (r : Int)) (h2 : d.testBit j = false → r = q) : r = dlF q d j := by
  unfold dlF
  cases b : d.testBit j with
  | false =>
    rw [if_neg (by decide)]
    exact h2 b
  | true =>
    rw [if_pos rfl]
    obtain ⟨l, hl, el⟩ := h1 b
    have e : rb q d j = ((List.range q).filter fun i => d.testBit ((j + i) % q)).map fun i => (j + i) % q := by
      unfold rb
      rw [List.filter_map]
      rfl
    rw [e, List.getLast?_map] at hl
    cases z : ((List.range q).filter fun i => d.testBit ((j + i) % q)).getLast? with
    | none => rw [z] at hl; cases hl
    | some i =>
      rw [z] at hl
      have e2 : (j + i) % q = l := Option.some.inj hl
      have hi : i < q := List.mem_range.mp (List.mem_filter.mp (List.mem_of_getLast? z)).1
      rw [← e2, ar_at j hi] at el
      show r = i
      omega
def due (q t : Nat) : Nat := if t = 0 then 1 else if t < q then 2 ^ (t - 1) else 2 ^ (q - 1)
theorem counts : ∀ q, q < 6 → ∀ j, j < q → ∀ t, t ≤ q → ((List.range (2 ^ q)).map fun d => dlF q d j).count t = due q t := by decide +kernel
theorem xor_perm {q s : Nat} (hs : s < 2 ^ q) : ((List.range (2 ^ q)).map (· ^^^ s)).Perm (List.range (2 ^ q)) := by
  refine (List.perm_ext_iff_of_nodup ?_ List.nodup_range).mpr fun x => ?_
  · unfold List.Nodup
    rw [List.pairwise_map]
    exact (List.pairwise_lt_range).imp fun {a b} hab e => by
      have := congrArg (· ^^^ s) e
      have e2 : a = b := by simpa [Nat.xor_assoc] using this
      omega
  · rw [List.mem_map, List.mem_range]
    constructor
    · rintro ⟨y, hy, rfl⟩
      exact Nat.xor_lt_two_pow (List.mem_range.mp hy) hs
    · exact fun hx => ⟨x ^^^ s, List.mem_range.mpr (Nat.xor_lt_two_pow hx hs), by rw [Nat.xor_assoc, Nat.xor_self, Nat.xor_zero]⟩
theorem counts_at {q j s t : Nat} (hq : q < 6) (hj : j < q) (hs : s < 2 ^ q) (ht : t ≤ q) : ((List.range (2 ^ q)).map fun h => dlF q (h ^^^ s) j).count t = due q t := by
  have p := (xor_perm hs).map fun d => dlF q d j
  rw [List.map_map] at p
  rw [← counts q hq j hj t ht]
  exact p.count_eq t
end Bf
namespace Bf
open PySem PySem.Spec PyProof.Rows L2 LamX NdefX
/-! ### how many hands have a letter -/
def ctN (q j l : Nat) : Nat := ((List.range (2 ^ q)).filter fun d => decide (d = 0 ∨ dyF q d j < l)).length
def ctL (q j l : Nat) : Nat := ((List.range (2 ^ q)).filter fun d => decide (d = 0 ∨ farF q d j < l)).length
theorem ctN_is : ∀ q, q < 7 → ∀ j, j < q → ∀ l, l < q + 2 → ctN q j l = (if l = 0 then 1 else if l ≤ q then 2 ^ (l - 1) + 1 else 2 ^ q) := by decide +kernel
theorem ctL_is : ∀ q, q < 7 → ∀ j, j < q → ∀ l, l < q + 1 → ctL q j l = 2 ^ l := by decide +kernel
end Bf
namespace Bf
open PySem PySem.Spec PyProof.Rows L2 LamX NdefX
def g5 {α : Type} (us ws : List α) : List α := match us, ws with
  | [a, b, c, d, e], [f] => [a, b, c, d, e, f]
  | _, _ => []
theorem g5_rel {vs zs : List V} {us ws : List Value} (r1 : Vals vs us) (r2 : Vals zs ws) : Vals (g5 vs zs) (g5 us ws) := by
  match r1, r2 with
  | .nil, _ => exact .nil
  | .cons _ .nil, _ => exact .nil
  | .cons _ (.cons _ .nil), _ => exact .nil
  | .cons _ (.cons _ (.cons _ .nil)), _ => exact .nil
  | .cons _ (.cons _ (.cons _ (.cons _ .nil))), _ => exact .nil
  | .cons _ (.cons _ (.cons _ (.cons _ (.cons _ .nil)))), .nil => exact .nil
  | .cons a (.cons b (.cons c (.cons d (.cons e .nil)))), .cons f .nil => exact .cons a (.cons b (.cons c (.cons d (.cons e (.cons f .nil)))))
  | .cons _ (.cons _ (.cons _ (.cons _ (.cons _ .nil)))), .cons _ (.cons _ _) => exact .nil
  | .cons _ (.cons _ (.cons _ (.cons _ (.cons _ (.cons _ _))))), _ => exact .nil
theorem g5_len {us ws : List Value} (h : (g5 us ws).length = 6) : ∃ a b c d e f, us = [a, b, c, d, e] ∧ ws = [f] := by
  match us, ws, h with
  | [a, b, c, d, e], [f], _ => exact ⟨a, b, c, d, e, f, rfl, rfl⟩
  | [], _, h => cases h
  | [_], _, h => cases h
  | [_, _], _, h => cases h
  | [_, _, _], _, h => cases h
  | [_, _, _, _], _, h => cases h
  | [_, _, _, _, _], [], h => cases h
  | [_, _, _, _, _], _ :: _ :: _, h => cases h
  | _ :: _ :: _ :: _ :: _ :: _ :: _, _, h => cases h
theorem kbS5 {x1 x2 x3 x4 x5 : Str} {K : PySem.W.Frag} {x : Str} {st : Stmt} {f : Addr} {fd : FuncData} (F : FunS K x st f fd) (h : ∀ (kV doc pm : Value) (an : Option Addr) (cdv ct a b c d e g : Value), bindArgs (PySem.W.fnOf x x (defArgs st) (defBody st) (defScope st) .none kV doc pm an cdv ct) ⟨[a, b, c, d, e], [(("source" : Str), g)]⟩ = pure ([(x1, a), (x2, b), (x3, c), (x4, d), (x5, e), ("source", g)] : List (Str × Value))) :
    KBinds K fd [x1, x2, x3, x4, x5, "source"] ["source"] g5 g5 := by
  obtain ⟨oc, od, dV, kV, doc, pm, an, cdv, ct, osl, rfl, lk, hcd, hD, hK⟩ := F.ex
  rcases hD with ⟨_, rfl⟩ | ⟨z, _⟩
  · refine ⟨fun s us ws _ hl => ?_, fun r1 r2 => g5_rel r1 r2⟩
    obtain ⟨a, b, c, d, e, g, rfl, rfl⟩ := g5_len hl
    exact .of_eq (h kV doc pm an cdv ct a b c d e g)
  · exact absurd rfl z
theorem in_nv {L : List Nat} {s : Nat} (h : s ∈ L) : inV (.int (s : Int)) (nv L) = true := by
  unfold inV nv
  rw [List.any_map, List.any_eq_true]
  refine ⟨s, h, ?_⟩
  show ((s : Int) == (s : Int)) = true
  exact beq_self_eq_true _
end Bf
namespace Bf
open PySem PySem.Spec PyProof.Rows L2 LamX NdefX
/-! ### the first beat from one on that crosses a bit of the set -/
def cfF (q d t : Nat) : Nat := t + (ar q (t % q) (((rb q d (t % q)).head?).getD 0)).toNat
theorem cf_spec {q d t : Nat} (hq : 0 < q) (hd : d < 2 ^ q) (h0 : d ≠ 0) : ∃ B, (rb q d (t % q)).head? = some B ∧ (cfF q d t : Int) = t + ar q (t % q) B ∧ B < q ∧ d.testBit B = true ∧ cfF q d t % q = B ∧ t ≤ cfF q d t ∧ cfF q d t < t + q ∧ ∀ u, t ≤ u → d.testBit (u % q) = true → cfF q d t ≤ u := by
  have hne : rb q d (t % q) ≠ [] := fun e => by
    obtain ⟨i, hi⟩ := Nat.exists_testBit_of_ne_zero h0
    have : i ∈ rb q d (t % q) := mem_rb.mpr ⟨lt_of_bit hd hi, hi⟩
    rw [e] at this
    exact absurd this List.not_mem_nil
  obtain ⟨B, l, el⟩ : ∃ B l, rb q d (t % q) = B :: l := by
    cases e : rb q d (t % q) with
    | nil => exact absurd e hne
    | cons B l => exact ⟨B, l, rfl⟩
  have hm : B ∈ rb q d (t % q) := by rw [el]; exact List.mem_cons_self
  obtain ⟨hB, bB⟩ := mem_rb.mp hm
  have a0 := ar_nn (q := q) (j := t % q) (x := B) hq
  have a1 := ar_lt (q := q) (j := t % q) (x := B) hq
  have hk : t % q < q := Nat.mod_lt _ hq
  have ec : cfF q d t = t + (ar q (t % q) B).toNat := by
    unfold cfF
    rw [el]
    rfl
  have em : cfF q d t % q = B := by
    have h2 := arc_to hk hB
    rw [← Int.toNat_of_nonneg a0] at h2
    have h3 : (((t % q + (ar q (t % q) B).toNat) % q : Nat) : Int) = (B : Int) := by rw [Int.natCast_emod, Int.natCast_add]; exact h2
    have := Int.ofNat.inj h3
    rw [Nat.mod_add_mod] at this
    rw [ec]
    exact this
  refine ⟨B, by rw [el]; rfl, by omega, hB, bB, em, by omega, by omega, fun u hu bu => ?_⟩
  obtain ⟨e, rfl⟩ := Nat.exists_eq_add_of_le hu
  by_cases he : e < q
  · have h1 : ar q (t % q) ((t + e) % q) = (e : Int) := ar_add he
    have hx : (t + e) % q ∈ rb q d (t % q) := mem_rb.mpr ⟨Nat.mod_lt _ hq, bu⟩
    have hs := rb_sorted q d (t % q)
    rw [el] at hx hs
    rcases List.mem_cons.mp hx with e1 | e1
    · rw [e1] at h1
      omega
    · have := (List.pairwise_cons.mp hs).1 _ e1
      omega
  · omega
/-- which letters are had -/
theorem has_in {q m d i t : Nat} (hq : 0 < q) (hd : d < 2 ^ q) (h0 : d ≠ 0) (hi : i + 1 < m) : snF q m d i < t ↔ i + q < t ∨ i + q = cfF q d t := by
  obtain ⟨B, _, _, hB, bB, em, c1, c2, c3⟩ := cf_spec (t := t) hq hd h0
  have hj : i % q < q := Nat.mod_lt _ hq
  unfold snF
  rw [if_neg (by omega)]
  unfold dyF
  cases b : d.testBit (i % q) with
  | false =>
    rw [if_neg (by decide)]
    constructor
    · exact fun h => .inl h
    · rintro (h | h)
      · exact h
      · exfalso
        rw [← h, Nat.add_mod_right] at em
        rw [em, bB] at b
        cases b
  | true =>
    rw [if_pos rfl]
    obtain ⟨L, _, e3, bL, hL, top⟩ := far_spec (j := i % q) hq hd h0
    have fl := far_lt (q := q) (d := d) (j := i % q) hq
    have eL : (i + farF q d (i % q)) % q = L := by
      have h2 := arc_to hj hL
      rw [e3] at h2
      have : (((i % q + farF q d (i % q)) % q : Nat) : Int) = (L : Int) := by rw [Int.natCast_emod, Int.natCast_add]; exact h2
      have := Int.ofNat.inj this
      rw [Nat.mod_add_mod] at this
      exact this
    constructor
    · intro h
      by_cases hc : i + q < t
      · exact .inl hc
      · refine .inr ?_
        have h1 := c3 (i + q) (by omega) (by rw [Nat.add_mod_right]; exact b)
        refine Classical.byContradiction fun hne => ?_
        obtain ⟨e, he⟩ := Nat.exists_eq_add_of_le (show i ≤ cfF q d t by omega)
        have h2 : ar q (i % q) ((i + e) % q) = (e : Int) := ar_add (by omega)
        rw [← he, em] at h2
        have := top B bB
        omega
    · rintro (h | h)
      · omega
      · refine Classical.byContradiction fun hc => ?_
        have := c3 (i + farF q d (i % q)) (by omega) (by rw [eL]; exact bL)
        omega
theorem has_last {q m d i t : Nat} (hq : 0 < q) (hd : d < 2 ^ q) (h0 : d ≠ 0) (hi : i + 1 = m) : snF q m d i < t ↔ i + q ≤ cfF q d t := by
  obtain ⟨B, _, _, hB, bB, em, c1, c2, c3⟩ := cf_spec (t := t) hq hd h0
  have hj : i % q < q := Nat.mod_lt _ hq
  unfold snF
  rw [if_pos hi]
  obtain ⟨L, _, e3, bL, hL, top⟩ := far_spec (j := i % q) hq hd h0
  have fl := far_lt (q := q) (d := d) (j := i % q) hq
  have eL : (i + farF q d (i % q)) % q = L := by
    have h2 := arc_to hj hL
    rw [e3] at h2
    have : (((i % q + farF q d (i % q)) % q : Nat) : Int) = (L : Int) := by rw [Int.natCast_emod, Int.natCast_add]; exact h2
    have := Int.ofNat.inj this
    rw [Nat.mod_add_mod] at this
    exact this
  constructor
  · intro h
    refine Classical.byContradiction fun hne => ?_
    obtain ⟨e, he⟩ := Nat.exists_eq_add_of_le (show i ≤ cfF q d t by omega)
    have h2 : ar q (i % q) ((i + e) % q) = (e : Int) := ar_add (by omega)
    rw [← he, em] at h2
    have := top B bB
    omega
  · intro h
    refine Classical.byContradiction fun hc => ?_
    have := c3 (i + farF q d (i % q)) (by omega) (by rw [eL]; exact bL)
    omega
def hdF (q m t : Nat) : Nat := min (t - q) (m - 1)
def myF (q m d t : Nat) : Nat := hdF q m t + (if q ≤ cfF q d t then 1 else 0)
/-- the least letter that lacks -/
def flF (q m d t : Nat) : Nat := hdF q m t + (if q ≤ cfF q d t ∧ min (cfF q d t - q) (m - 1) = hdF q m t then 1 else 0)
theorem has_iff {q m d i t : Nat} (hq : 0 < q) (hd : d < 2 ^ q) (h0 : d ≠ 0) (hi : i < m) : snF q m d i < t ↔ i < hdF q m t ∨ (q ≤ cfF q d t ∧ i = min (cfF q d t - q) (m - 1)) := by
  obtain ⟨B, _, _, hB, bB, em, c1, c2, c3⟩ := cf_spec (t := t) hq hd h0
  unfold hdF
  by_cases e : i + 1 = m
  · rw [has_last hq hd h0 e]
    omega
  · rw [has_in hq hd h0 (by omega)]
    omega
theorem my_count {q m d t : Nat} (hq : 0 < q) (hm : 0 < m) (hd : d < 2 ^ q) (h0 : d ≠ 0) : ((List.range m).filter fun i => decide (snF q m d i < t)).length = myF q m d t := by
  obtain ⟨B, _, _, hB, bB, em, c1, c2, c3⟩ := cf_spec (t := t) hq hd h0
  have hE : (List.range m).filter (fun i => decide (snF q m d i < t)) = List.range (hdF q m t) ++ (if q ≤ cfF q d t then [min (cfF q d t - q) (m - 1)] else []) := by
    refine uniq_sorted (key := fun n : Nat => (n : Int)) (List.Pairwise.filter _ (List.pairwise_lt_range.imp fun {a b} h => by omega)) ?_ fun x => ?_
    · refine List.pairwise_append.mpr ⟨List.pairwise_lt_range.imp fun {a b} h => by omega, ?_, fun a ha b hb => ?_⟩
      · split
        · exact List.pairwise_singleton _ _
        · exact List.Pairwise.nil
      · split at hb
        · have := List.mem_range.mp ha
          rw [List.mem_singleton.mp hb]
          unfold hdF at this
          omega
        · exact absurd hb List.not_mem_nil
    · rw [List.mem_filter, List.mem_range, List.mem_append, List.mem_range]
      have hhd : hdF q m t ≤ m - 1 := by unfold hdF; omega
      constructor
      · rintro ⟨h1, h2⟩
        rcases (has_iff hq hd h0 h1).mp (of_decide_eq_true h2) with h | ⟨h3, h4⟩
        · exact .inl h
        · refine .inr ?_
          rw [if_pos h3]
          exact List.mem_singleton.mpr h4
      · rintro (h | h)
        · exact ⟨by omega, decide_eq_true ((has_iff hq hd h0 (by omega)).mpr (.inl h))⟩
        · split at h
          · rename_i h3
            have h4 := List.mem_singleton.mp h
            exact ⟨by omega, decide_eq_true ((has_iff hq hd h0 (by omega)).mpr (.inr ⟨h3, h4⟩))⟩
          · exact absurd h List.not_mem_nil
  rw [hE, List.length_append, List.length_range]
  unfold myF
  split <;> rfl
theorem fl_lacks {q m d t : Nat} (hq : 0 < q) (hm : 0 < m) (hd : d < 2 ^ q) (h0 : d ≠ 0) : (flF q m d t < m → ¬ snF q m d (flF q m d t) < t) ∧ (∀ i, i < flF q m d t → i < m → snF q m d i < t) ∧ flF q m d t ≤ m := by
  obtain ⟨B, _, _, hB, bB, em, c1, c2, c3⟩ := cf_spec (t := t) hq hd h0
  have hhd : hdF q m t ≤ m - 1 := by unfold hdF; omega
  refine ⟨fun hlt => ?_, fun i hi hm2 => ?_, ?_⟩
  · rw [has_iff hq hd h0 hlt]
    unfold flF
    split
    · rename_i h
      omega
    · rename_i h
      omega
  · rw [has_iff hq hd h0 hm2]
    unfold flF at hi
    split at hi
    · rename_i h
      omega
    · omega
  · unfold flF
    split <;> omega
end Bf
namespace Bf
/-! ### letters of each tree, counted -/
def ctF (q j : Nat) (u : Int) : Nat := ((u - (j : Int)) / (q : Int) + 1).toNat
theorem div_step {q : Nat} (hq : 0 < q) (x : Int) : x / (q : Int) = (x - 1) / (q : Int) + (if x % (q : Int) = 0 then 1 else 0) := by
  have h1 := Int.mul_ediv_add_emod x q
  have h2 := Int.emod_nonneg x (show (q : Int) ≠ 0 by omega)
  have h3 := Int.emod_lt_of_pos x (show (0 : Int) < q by omega)
  by_cases c : x % (q : Int) = 0
  · rw [if_pos c]
    have e : x - 1 = (q : Int) * (x / (q : Int) - 1) + ((q : Int) - 1) := by
      rw [Int.mul_sub, Int.mul_one]
      omega
    have := (Int.ediv_emod_unique (a := x - 1) (b := (q : Int)) (r := (q : Int) - 1) (q := x / (q : Int) - 1) (by omega)).mpr ⟨by omega, by omega, by omega⟩
    omega
  · rw [if_neg c]
    have := (Int.ediv_emod_unique (a := x - 1) (b := (q : Int)) (r := x % (q : Int) - 1) (q := x / (q : Int)) (by omega)).mpr ⟨by omega, by omega, by omega⟩
    omega
theorem ct_zero {q j : Nat} {u : Int} (hq : 0 < q) (h : u < (j : Int)) : ctF q j u = 0 := by
  unfold ctF
  have : (u - (j : Int)) / (q : Int) < 0 := Int.ediv_neg_of_neg_of_pos (by omega) (by omega)
  omega
theorem ct_step {q j n : Nat} (hq : 0 < q) (hj : j < q) : ctF q j (n : Int) = ctF q j ((n : Int) - 1) + (if n % q = j then 1 else 0) := by
  by_cases c : n < j
  · rw [ct_zero hq (by omega), ct_zero hq (by omega), if_neg]
    rw [Nat.mod_eq_of_lt (by omega)]
    omega
  · unfold ctF
    rw [div_step hq ((n : Int) - j), show (n : Int) - 1 - (j : Int) = (n : Int) - j - 1 by omega]
    have h0 : -1 ≤ ((n : Int) - j - 1) / (q : Int) := by
      have : (-1 : Int) / (q : Int) ≤ ((n : Int) - j - 1) / (q : Int) := Int.ediv_le_ediv (by omega) (by omega)
      have e : (-1 : Int) / (q : Int) = -1 := by
        have := (Int.ediv_emod_unique (a := (-1 : Int)) (b := (q : Int)) (r := (q : Int) - 1) (q := -1) (by omega)).mpr ⟨by omega, by omega, by omega⟩
        exact this.1
      omega
    have e1 : ((n : Int) - j) % (q : Int) = 0 ↔ n % q = j := by
      have e2 : ((n : Int) - j) = ((n - j : Nat) : Int) := by omega
      rw [e2, ← Int.natCast_emod]
      constructor
      · intro h
        have h : (n - j) % q = 0 := by omega
        have e3 : n = j + (n - j) := by omega
        rw [e3, Nat.add_mod, h, Nat.add_zero, Nat.mod_mod, Nat.mod_eq_of_lt hj]
      · intro h
        have h1 := Nat.div_add_mod n q
        have e3 : n - j = q * (n / q) := by omega
        rw [e3, Nat.mul_mod_right]
        rfl
    by_cases c2 : n % q = j
    · rw [if_pos c2, if_pos (e1.mpr c2)]
      omega
    · rw [if_neg c2, if_neg (fun z => c2 (e1.mp z))]
      omega
/-- of tree j, of the letters below n -/
def caF (q d t j n : Nat) : Nat := ctF q j (min ((n : Int) - 1) ((t : Int) - 1 - (dyF q d j : Nat)))
theorem ca_step {q d t j n : Nat} (hq : 0 < q) (hj : j < q) : caF q d t j (n + 1) = caF q d t j n + (if n % q = j ∧ n + dyF q d j < t then 1 else 0) := by
  unfold caF
  by_cases c : n + dyF q d j < t
  · rw [show min (((n + 1 : Nat) : Int) - 1) ((t : Int) - 1 - (dyF q d j : Nat)) = (n : Int) by omega, show min ((n : Int) - 1) ((t : Int) - 1 - (dyF q d j : Nat)) = (n : Int) - 1 by omega, ct_step hq hj]
    by_cases c2 : n % q = j
    · rw [if_pos c2, if_pos ⟨c2, c⟩]
    · rw [if_neg c2, if_neg (fun z => c2 z.1)]
  · rw [if_neg (fun z => c z.2), show min (((n + 1 : Nat) : Int) - 1) ((t : Int) - 1 - (dyF q d j : Nat)) = (t : Int) - 1 - (dyF q d j : Nat) by omega, show min ((n : Int) - 1) ((t : Int) - 1 - (dyF q d j : Nat)) = (t : Int) - 1 - (dyF q d j : Nat) by omega]
    rfl
/-- of the first r trees -/
def suF (q d t n : Nat) : Nat → Nat
  | 0 => 0
  | r + 1 => suF q d t n r + caF q d t r n
theorem su_step {q d t n : Nat} (hq : 0 < q) : ∀ r, r ≤ q → suF q d t (n + 1) r = suF q d t n r + (if n % q < r ∧ n + dyF q d (n % q) < t then 1 else 0)
  | 0, _ => by
    rw [if_neg (fun z => absurd z.1 (Nat.not_lt_zero _))]
    rfl
  | r + 1, h => by
    show suF q d t (n + 1) r + caF q d t r (n + 1) = suF q d t n r + caF q d t r n + _
    rw [su_step hq r (by omega), ca_step hq (by omega)]
    by_cases c : n % q = r
    · subst c
      by_cases c2 : n + dyF q d (n % q) < t
      · rw [if_neg (by omega), if_pos ⟨rfl, c2⟩, if_pos ⟨by omega, c2⟩]
        omega
      · rw [if_neg (fun z => c2 z.2), if_neg (fun z => c2 z.2), if_neg (fun z => c2 z.2)]
        omega
    · rw [if_neg (fun (z : n % q = r ∧ _) => c z.1)]
      by_cases c2 : n % q < r ∧ n + dyF q d (n % q) < t
      · rw [if_pos c2, if_pos ⟨by omega, c2.2⟩]
        omega
      · rw [if_neg c2, if_neg (fun z => c2 ⟨by omega, z.2⟩)]
        omega
theorem su_zero {q d t : Nat} (hq : 0 < q) : ∀ r, suF q d t 0 r = 0
  | 0 => rfl
  | r + 1 => by
    show suF q d t 0 r + caF q d t r 0 = 0
    rw [su_zero hq r]
    unfold caF
    rw [ct_zero hq (by omega)]
theorem su_count {q m d t : Nat} (hq : 0 < q) : ∀ n, n + 1 ≤ m → suF q d t n q = ((List.range n).filter fun i => decide (snF q m d i < t)).length
  | 0, _ => su_zero hq q
  | n + 1, h => by
    rw [su_step hq q (Nat.le_refl q), su_count (m := m) hq n (by omega), List.range_succ, List.filter_append, List.length_append]
    have hs : snF q m d n = n + dyF q d (n % q) := by
      unfold snF
      rw [if_neg (by omega)]
    have hn := Nat.mod_lt n hq
    by_cases c : snF q m d n < t
    · rw [if_pos ⟨hn, by omega⟩]
      simp [c]
    · rw [if_neg (fun z => c (by omega))]
      simp [c]
theorem su_my {q m d t : Nat} (hq : 0 < q) (hm : 0 < m) (hd : d < 2 ^ q) (h0 : d ≠ 0) : suF q d t (m - 1) q + (if snF q m d (m - 1) < t then 1 else 0) = myF q m d t := by
  rw [← my_count hq hm hd h0, su_count (m := m) hq (m - 1) (by omega)]
  obtain ⟨n, rfl⟩ : ∃ n, m = n + 1 := ⟨m - 1, by omega⟩
  rw [show n + 1 - 1 = n by omega, List.range_succ, List.filter_append, List.length_append]
  by_cases c : snF q (n + 1) d n < t
  · simp [c]
  · simp [c]
theorem ca_int {q d t j m : Nat} (hm : 0 < m) : (if ((if ((t : Int) - 1 - (dyF q d j : Nat)) < ((m : Int) - 2) then ((t : Int) - 1 - (dyF q d j : Nat)) else ((m : Int) - 2)) - (j : Int)) / (q : Int) + 1 > 0 then ((if ((t : Int) - 1 - (dyF q d j : Nat)) < ((m : Int) - 2) then ((t : Int) - 1 - (dyF q d j : Nat)) else ((m : Int) - 2)) - (j : Int)) / (q : Int) + 1 else 0) = ((caF q d t j (m - 1) : Nat) : Int) := by
  have e : (if ((t : Int) - 1 - (dyF q d j : Nat)) < ((m : Int) - 2) then ((t : Int) - 1 - (dyF q d j : Nat)) else ((m : Int) - 2)) = min (((m - 1 : Nat) : Int) - 1) ((t : Int) - 1 - (dyF q d j : Nat)) := by
    split <;> omega
  rw [e]
  unfold caF ctF
  generalize (min (((m - 1 : Nat) : Int) - 1) ((t : Int) - 1 - (dyF q d j : Nat)) - (j : Int)) / (q : Int) = z
  split <;> omega
theorem my_le {q m d t : Nat} (hm : 0 < m) : myF q m d t ≤ m := by
  unfold myF hdF
  split <;> omega
end Bf
namespace Bf
open PySem PySem.Spec PyProof.Rows L2 LamX NdefX
/-! ### all by names, in any order -/
def gP {α : Type} (π : List Nat) (us ws : List α) : List α := match us with
  | [] => if ws.length = π.length then π.filterMap (fun i => ws[i]?) else []
  | _ :: _ => []
theorem vals_get {zs : List V} {ws : List Value} (r : Vals zs ws) : ∀ i : Nat, (zs[i]? = none ∧ ws[i]? = none) ∨ ∃ z w, zs[i]? = some z ∧ ws[i]? = some w ∧ RelV z w := by
  induction r with
  | nil => exact fun i => .inl ⟨by simp, by simp⟩
  | cons a r ih =>
    intro i
    cases i with
    | zero => exact .inr ⟨_, _, rfl, rfl, a⟩
    | succ i => simpa using ih i
theorem gP_pick {zs : List V} {ws : List Value} (r : Vals zs ws) : ∀ π : List Nat, Vals (π.filterMap (fun i => zs[i]?)) (π.filterMap (fun i => ws[i]?))
  | [] => .nil
  | i :: π => by
    have ih := gP_pick r π
    rcases vals_get r i with ⟨e1, e2⟩ | ⟨z, w, e1, e2, rz⟩
    · rw [List.filterMap_cons_none e1, List.filterMap_cons_none e2]
      exact ih
    · rw [List.filterMap_cons_some e1, List.filterMap_cons_some e2]
      exact .cons rz ih
theorem gP_rel {π : List Nat} {vs zs : List V} {us ws : List Value} (r1 : Vals vs us) (r2 : Vals zs ws) : Vals (gP π vs zs) (gP π us ws) := by
  cases r1 with
  | nil =>
    show Vals (if zs.length = π.length then _ else []) (if ws.length = π.length then _ else [])
    rw [r2.length]
    by_cases e : ws.length = π.length
    · rw [if_pos e, if_pos e]
      exact gP_pick r2 π
    · rw [if_neg e, if_neg e]
      exact .nil
  | cons _ _ => exact .nil
theorem gP_len {π : List Nat} {us ws : List Value} {n : Nat} (hn : 0 < n) (h : (gP π us ws).length = n) : us = [] ∧ ws.length = π.length := by
  cases us with
  | nil =>
    refine ⟨rfl, Classical.byContradiction fun e => ?_⟩
    have : (if ws.length = π.length then π.filterMap (fun i => ws[i]?) else []).length = n := h
    rw [if_neg e] at this
    have : 0 = n := this
    omega
  | cons _ _ =>
    have : 0 = n := h
    omega
theorem kbP {π : List Nat} {ps ks : List Str} {K : PySem.W.Frag} {x : Str} {st : Stmt} {f : Addr} {fd : FuncData} (F : FunS K x st f fd) (hp : 0 < ps.length)
    (h : ∀ (kV doc pm : Value) (an : Option Addr) (cdv ct : Value) (ws : List Value), ws.length = π.length → bindArgs (PySem.W.fnOf x x (defArgs st) (defBody st) (defScope st) .none kV doc pm an cdv ct) ⟨[], ks.zip ws⟩ = pure (ps.zip (gP π [] ws))) :
    KBinds K fd ps ks (gP π) (gP π) := by
  obtain ⟨oc, od, dV, kV, doc, pm, an, cdv, ct, osl, rfl, lk, hcd, hD, hK⟩ := F.ex
  rcases hD with ⟨_, rfl⟩ | ⟨z, _⟩
  · refine ⟨fun s us ws _ hl => ?_, fun r1 r2 => gP_rel r1 r2⟩
    obtain ⟨rfl, hw⟩ := gP_len hp hl
    exact .of_eq (h kV doc pm an cdv ct ws hw)
  · exact absurd rfl z
theorem kbQ {π : List Nat} {ps ks : List Str} {K : PySem.W.Frag} {x : Str} {st : Stmt} {f : Addr} {fd : FuncData} (F : Fun K x x st f fd) (hp : 0 < ps.length)
    (h : ∀ (kV doc pm : Value) (an : Option Addr) (cdv ct : Value) (ws : List Value), ws.length = π.length → bindArgs (PySem.W.fnOf x x (defArgs st) (defBody st) (defScope st) .none kV doc pm an cdv ct) ⟨[], ks.zip ws⟩ = pure (ps.zip (gP π [] ws))) :
    KBinds K fd ps ks (gP π) (gP π) := by
  obtain ⟨oc, od, kV, doc, pm, an, cdv, ct, osl, rfl, lk, hcd⟩ := F.ex
  refine ⟨fun s us ws _ hl => ?_, fun r1 r2 => gP_rel r1 r2⟩
  obtain ⟨rfl, hw⟩ := gP_len hp hl
  exact .of_eq (h kV doc pm an cdv ct ws hw)
/-! ### data of some kinds in a list -/
structure Okd (d : PyData) : Prop where
  sh : d.showable = true
  di : d.hasDict = false
  de : d.depth ≤ 2
  lv : d.leavesShort 64 = true
  we : d.weight ≤ 200
theorem okd_none : Okd .none := ⟨rfl, rfl, by decide, rfl, by decide⟩
theorem okd_bool (b : Bool) : Okd (.bool b) := by cases b <;> exact ⟨rfl, rfl, by decide, rfl, by decide⟩
theorem okd_tup {ns : List Nat} (h : ∀ n ∈ ns, n < 2 ^ 61) (hl : ns.length ≤ 3) : Okd (.tuple (nd' ns)) := by
  refine ⟨nd_show _ h, nd_dict _, nd_dep _, nd_leaves _ h, ?_⟩
  have h2 : PyData.weight (.tuple (nd' ns)) ≤ 63 * ns.length := nd_weight ns h
  omega
theorem okd_int {n : Nat} (h : n < 2 ^ 61) : Okd (.int (n : Int)) := by
  have h1 : ∀ x ∈ [n], x < 2 ^ 61 := fun x hx => by rw [List.mem_singleton.mp hx]; exact h
  have a1 : (PyData.showable (.int (n : Int)) && PyData.showableAll []) = true := nd_show [n] h1
  have a2 : (PyData.leavesShort 64 (.int (n : Int)) && PyData.leavesShortAll 64 []) = true := nd_leaves [n] h1
  have a3 : PyData.weight (.int (n : Int)) + 1 + PyData.weightAll [] ≤ 63 * 1 := nd_weight [n] h1
  exact ⟨(Bool.and_eq_true _ _ ▸ a1).1, rfl, Nat.le_trans (by show PyData.depth (.int _) ≤ 1; simp [PyData.depth]) (by decide), (Bool.and_eq_true _ _ ▸ a2).1, by omega⟩
theorem okd_all : ∀ ds : List PyData, (∀ d ∈ ds, Okd d) → PyData.showableAll ds = true ∧ PyData.hasDictAll ds = false ∧ PyData.depthAll ds ≤ 2 ∧ PyData.leavesShortAll 64 ds = true ∧ PyData.weightAll ds ≤ 201 * ds.length
  | [], _ => ⟨rfl, rfl, by simp [PyData.depthAll], rfl, Nat.le_refl _⟩
  | d :: ds, h => by
    obtain ⟨a1, a2, a3, a4, a5⟩ := okd_all ds fun x hx => h x (List.mem_cons_of_mem _ hx)
    have o := h d List.mem_cons_self
    refine ⟨?_, ?_, ?_, ?_, ?_⟩
    · show (PyData.showable d && PyData.showableAll ds) = true
      rw [o.sh, a1]
      rfl
    · show (PyData.hasDict d || PyData.hasDictAll ds) = false
      rw [o.di, a2]
      rfl
    · show max (PyData.depth d) (PyData.depthAll ds) ≤ 2
      have := o.de
      omega
    · show (PyData.leavesShort 64 d && PyData.leavesShortAll 64 ds) = true
      rw [o.lv, a4]
      rfl
    · show PyData.weight d + 1 + PyData.weightAll ds ≤ 201 * (ds.length + 1)
      have := o.we
      omega
theorem okd_list {ds : List PyData} (h : ∀ d ∈ ds, Okd d) (hl : ds.length ≤ 100) : (PyData.list ds).showable = true ∧ (PyData.list ds).hasDict = false ∧ (PyData.list ds).depth < 60 ∧ (PyData.list ds).shown.length ≤ sizeLine := by
  obtain ⟨a1, a2, a3, a4, a5⟩ := okd_all ds h
  refine ⟨a1, a2, ?_, ?_⟩
  · show PyData.depthAll ds + 1 < 60
    omega
  · have h1 := PyData.shown_le 64 (by decide) (.list ds) a4
    have h2 : PyData.weight (.list ds) ≤ 201 * ds.length := a5
    rw [sizeLine_eq]
    have h3 : (64 + 2) * PyData.weight (.list ds) ≤ 66 * (201 * 100) := Nat.mul_le_mul (by decide) (by omega)
    omega
/-- what stands for itself -/
def vD : V → PyData
  | .non => .none
  | .bl b => .bool b
  | .int i => .int i
  | _ => .none
def Imm (v : V) : Prop := v = .non ∨ (∃ b, v = .bl b) ∨ ∃ n : Nat, n < 2 ^ 61 ∧ v = .int (n : Int)
theorem Imm.dp {K : PySem.W.Frag} {H : Hp} {v : V} (h : Imm v) : Dp K H v (vD v) := by
  rcases h with rfl | ⟨b, rfl⟩ | ⟨n, _, rfl⟩
  · exact .non
  · exact .bl b
  · exact .int _
theorem Imm.ok {v : V} (h : Imm v) : Okd (vD v) := by
  rcases h with rfl | ⟨b, rfl⟩ | ⟨n, hn, rfl⟩
  · exact okd_none
  · exact okd_bool b
  · exact okd_int hn
theorem imm_int {n : Nat} (h : n < 2 ^ 61) : Imm (.int (n : Int)) := .inr (.inr ⟨n, h, rfl⟩)
theorem imm_bl (b : Bool) : Imm (.bl b) := .inr (.inl ⟨b, rfl⟩)
theorem imm_if {c : Prop} [Decidable c] {a b : V} (ha : Imm a) (hb : Imm b) : Imm (if c then a else b) := by
  split
  · exact ha
  · exact hb
/-- a pair or nothing -/
def PrO (H : Hp) (v : V) (o : Option (Nat × Nat)) : Prop := match o with
  | none => v = .non
  | some ab => ∃ p, v = .ref p ∧ H p = some (.tup (nv [ab.1, ab.2]))
def oD : Option (Nat × Nat) → PyData
  | none => .none
  | some ab => .tuple (nd' [ab.1, ab.2])
theorem PrO.ext {H H' : Hp} {v : V} {o : Option (Nat × Nat)} (h : PrO H v o) (x : ExtN H H') : PrO H' v o := by
  cases o with
  | none => exact h
  | some ab =>
    obtain ⟨p, e, hp⟩ := h
    exact ⟨p, e, x _ _ hp (fun ps z => nomatch z)⟩
theorem PrO.upd' {H : Hp} {L : Addr} {l l' : List V} {v : V} {o : Option (Nat × Nat)} (h : PrO H v o) (eL : H L = some (.lst l)) : PrO (upd H L (.lst l')) v o := by
  cases o with
  | none => exact h
  | some ab =>
    obtain ⟨p, e, hp⟩ := h
    refine ⟨p, e, ?_⟩
    rw [upd_ne (fun z => by rw [z, eL] at hp; cases hp)]
    exact hp
theorem PrO.dp {K : PySem.W.Frag} {H : Hp} {v : V} {o : Option (Nat × Nat)} (h : PrO H v o) : Dp K H v (oD o) := by
  cases o with
  | none =>
    have h : v = .non := h
    subst h
    exact .non
  | some ab =>
    obtain ⟨p, rfl, hp⟩ := h
    exact .tup (.inl (.inl hp)) (dp_nv _)
theorem oD_ok {o : Option (Nat × Nat)} (h : ∀ ab, o = some ab → ab.1 < 2 ^ 61 ∧ ab.2 < 2 ^ 61) : Okd (oD o) := by
  cases o with
  | none => exact okd_none
  | some ab =>
    obtain ⟨h1, h2⟩ := h ab rfl
    refine okd_tup (fun n hn => ?_) (by show 2 ≤ 3; decide)
    rcases List.mem_cons.mp hn with rfl | hn
    · exact h1
    · rw [List.mem_singleton.mp hn]
      exact h2
def hdO (q m s h t : Nat) : Option (Nat × Nat) := (duF q m (h ^^^ s) t).map fun l => (h ^^^ 2 ^ (t % q), l)
def tdO (q m s h t : Nat) : Option (Nat × Nat) := (duF q m (h ^^^ 2 ^ (t % q) ^^^ s) t).map fun l => (h ^^^ 2 ^ (t % q), l)
theorem du_none {q m d t : Nat} (c : t < ltF q d (t % q)) : duF q m d t = none := by
  unfold duF
  rw [if_pos c]
theorem du_some {q m d t : Nat} (c : ¬ t < ltF q d (t % q)) : duF q m d t = some (min (t - ltF q d (t % q)) (m - 1)) := by
  unfold duF
  rw [if_neg c]
theorem du_lt {q m d t l : Nat} (hm : 0 < m) (h : duF q m d t = some l) : l < m := by
  unfold duF at h
  by_cases c : t < ltF q d (t % q)
  · rw [if_pos c] at h
    cases h
  · rw [if_neg c] at h
    have := Option.some.inj h
    omega
theorem pair_small {q m d h t : Nat} (hq : 0 < q) (hq6 : q ≤ 60) (hm : 0 < m) (hm2 : m ≤ 1000000000000000000) (hh : h < 2 ^ q) (ab : Nat × Nat) (e : (duF q m d t).map (fun l => (h ^^^ 2 ^ (t % q), l)) = some ab) : ab.1 < 2 ^ 61 ∧ ab.2 < 2 ^ 61 := by
  cases z : duF q m d t with
  | none => rw [z] at e; cases e
  | some l =>
    rw [z] at e
    have e : (h ^^^ 2 ^ (t % q), l) = ab := Option.some.inj e
    subst e
    have := du_lt hm z
    refine ⟨?_, by show l < 2 ^ 61; omega⟩
    exact Nat.lt_of_lt_of_le (Nat.xor_lt_two_pow hh (Nat.pow_lt_pow_right (by decide) (Nat.mod_lt _ hq))) (Nat.pow_le_pow_right (by decide) (by omega))
end Bf
namespace Bf
open PySem PySem.Spec PyProof.Rows L2 LamX NdefX
def PotC (H : Hp) (a : Addr) (n : Nat) : Prop := ∃ x y z : Int, H a = some (.lst [.int x, .int y, .int z]) ∧ 0 ≤ x ∧ 0 ≤ y ∧ y < 4611686018427387904 ∧ 0 ≤ z ∧ z ≤ n
theorem PotC.up {H : Hp} {a : Addr} {n m : Nat} (h : PotC H a n) (l : n ≤ m) : PotC H a m := let ⟨x, y, z, h1, h2, h3, h4, h5, h6⟩ := h; ⟨x, y, z, h1, h2, h3, h4, h5, by omega⟩
theorem PotC.new {H : Hp} {a p : Addr} {n : Nat} {o : HO} (h : PotC H a n) (hp : H p = none) : PotC (upd H p o) a n := let ⟨x, y, z, h1, h2⟩ := h; ⟨x, y, z, by rw [upd_ne (ne_of_none h1 hp)]; exact h1, h2⟩
theorem PotC.same {H H' : Hp} {a : Addr} {n : Nat} (h : PotC H a n) (s : Same H H') : PotC H' a n := let ⟨x, y, z, h1, h2⟩ := h; ⟨x, y, z, s _ _ h1, h2⟩

theorem PotC.ext {H H' : Hp} {a : Addr} {n : Nat} (h : PotC H a n) (s : ExtN H H') : PotC H' a n := let ⟨x, y, z, h1, h2⟩ := h; ⟨x, y, z, s _ _ h1 (fun ps z => nomatch z), h2⟩
theorem tabs_keepsC {T : List (Addr × Str)} {H H' : Hp} {a : Addr} {m : Nat} (p : PotC H a m) (t : Tabs T H) (k : Keeps a H H') : Tabs T H' := fun q hq => by
  obtain ⟨x, y, z, hH, _⟩ := p
  obtain ⟨ps, h1, h2, h3⟩ := t q hq
  refine ⟨ps, k _ _ (fun e => ?_) h1, h2, fun pos cv hc => ?_⟩
  · rw [e, hH] at h1
    cases h1
  · obtain ⟨c, e1, e2⟩ := h3 pos cv hc
    refine ⟨c, e1, k _ _ (fun e => ?_) e2⟩
    rw [e, hH] at e2
    unfold CodeO at e2
    cases e2
theorem potC_ne {H : Hp} {p u : Addr} {m : Nat} (h : PotC H p m) (n : H u = none) : u ≠ p := fun e => by
  obtain ⟨x, y, z, hH, _⟩ := h
  rw [e, hH] at n
  cases n
end Bf
namespace Bf
open PySem PySem.Spec PyProof.Rows L2 LamX NdefX
/-! ### tellings -/
def trip (q m s t h : Nat) : Option (Nat × Nat × Nat) := (duF q m (h ^^^ 2 ^ (t % q) ^^^ s) t).map fun l => (h, h ^^^ 2 ^ (t % q), l)
def trL (q m s t n : Nat) : List (Nat × Nat × Nat) := (List.range n).filterMap (trip q m s t)
theorem trL_none {q m s t n : Nat} (h : duF q m (n ^^^ 2 ^ (t % q) ^^^ s) t = none) : trL q m s t (n + 1) = trL q m s t n := by
  unfold trL
  rw [List.range_succ, List.filterMap_append]
  simp [trip, h]
theorem trL_some {q m s t n l : Nat} (h : duF q m (n ^^^ 2 ^ (t % q) ^^^ s) t = some l) : trL q m s t (n + 1) = trL q m s t n ++ [(n, n ^^^ 2 ^ (t % q), l)] := by
  unfold trL
  rw [List.range_succ, List.filterMap_append]
  simp [trip, h]
theorem trL_len (q m s t n : Nat) : (trL q m s t n).length ≤ n := by
  unfold trL
  have := List.length_filterMap_le (trip q m s t) (List.range n)
  rw [List.length_range] at this
  exact this
theorem trL_small {q m s t : Nat} (hq : 0 < q) (hq6 : q ≤ 6) (hm : 0 < m) (hm6 : m ≤ 60) : ∀ x ∈ trL q m s t (2 ^ q), x.1 < 128 ∧ x.2.1 < 128 ∧ x.2.2 < 128 := by
  intro x hx
  unfold trL at hx
  obtain ⟨h, hh, e⟩ := List.mem_filterMap.mp hx
  have hh := List.mem_range.mp hh
  have hz : 2 ^ q ≤ 2 ^ 6 := Nat.pow_le_pow_right (by decide) hq6
  have h2 := Nat.xor_lt_two_pow hh (Nat.pow_lt_pow_right (a := 2) (by decide) (Nat.mod_lt t hq))
  unfold trip at e
  cases z : duF q m (h ^^^ 2 ^ (t % q) ^^^ s) t with
  | none => rw [z] at e; cases e
  | some l =>
    rw [z] at e
    have e : (h, h ^^^ 2 ^ (t % q), l) = x := Option.some.inj e
    have := du_lt hm z
    subst e
    refine ⟨by show h < 128; omega, by show h ^^^ 2 ^ (t % q) < 128; omega, by show l < 128; omega⟩
abbrev Trip := Nat × Nat × Nat
def bD (x : Trip) : PyData := .tuple (nd' [x.1, x.2.1, x.2.2])
def tsL (q m s n : Nat) : List (List Trip) := (List.range n).map fun t => trL q m s t (2 ^ q)
theorem tsL_succ (q m s n : Nat) : tsL q m s (n + 1) = tsL q m s n ++ [trL q m s n (2 ^ q)] := by
  unfold tsL
  rw [List.range_succ, List.map_append]
  rfl
def KTu (H H' : Hp) : Prop := ∀ p ns, H p = some (.tup ns) → H' p = some (.tup ns)
theorem ktu_ext {H H' : Hp} (x : ExtN H H') : KTu H H' := fun p ns h => x _ _ h (fun ps z => nomatch z)
theorem ktu_lst {H : Hp} {L : Addr} {l l' : List V} (e : H L = some (.lst l)) : KTu H (upd H L (.lst l')) := fun p ns h => by
  rw [upd_ne (fun z => by rw [z, e] at h; cases h)]
  exact h
theorem KTu.trans {A B C : Hp} (x : KTu A B) (y : KTu B C) : KTu A C := fun p ns h => y p ns (x p ns h)
def TrA (H : Hp) : List V → List Trip → Prop
  | [], [] => True
  | v :: vs, x :: xs => (∃ p, v = .ref p ∧ H p = some (.tup (nv [x.1, x.2.1, x.2.2]))) ∧ TrA H vs xs
  | _, _ => False
theorem TrA.mono {H H' : Hp} (k : KTu H H') : ∀ {vs : List V} {xs : List Trip}, TrA H vs xs → TrA H' vs xs
  | [], [], _ => trivial
  | v :: vs, x :: xs, ⟨⟨p, e, h⟩, r⟩ => ⟨⟨p, e, k _ _ h⟩, TrA.mono k r⟩
  | [], _ :: _, h => h.elim
  | _ :: _, [], h => h.elim
theorem TrA.snoc {H : Hp} {v : V} {x : Trip} (hv : ∃ p, v = .ref p ∧ H p = some (.tup (nv [x.1, x.2.1, x.2.2]))) : ∀ {vs : List V} {xs : List Trip}, TrA H vs xs → TrA H (vs ++ [v]) (xs ++ [x])
  | [], [], _ => ⟨hv, trivial⟩
  | _ :: _, _ :: _, ⟨h, r⟩ => ⟨h, TrA.snoc hv r⟩
  | [], _ :: _, h => h.elim
  | _ :: _, [], h => h.elim
theorem TrA.len {H : Hp} : ∀ {vs : List V} {xs : List Trip}, TrA H vs xs → vs.length = xs.length
  | [], [], _ => rfl
  | _ :: _, _ :: _, ⟨_, r⟩ => by rw [List.length_cons, List.length_cons, r.len]
  | [], _ :: _, h => h.elim
  | _ :: _, [], h => h.elim
theorem TrA.dp {K : PySem.W.Frag} {H : Hp} : ∀ {vs : List V} {xs : List Trip}, TrA H vs xs → DpAll K H vs (xs.map bD)
  | [], [], _ => .nil
  | _ :: _, x :: _, ⟨⟨p, e, h⟩, r⟩ => by subst e; exact .cons (dp_tup (ns := [x.1, x.2.1, x.2.2]) (.inl (.inl h))) r.dp
  | [], _ :: _, h => h.elim
  | _ :: _, [], h => h.elim
def BtA (H : Hp) : List V → List (List Trip) → Prop
  | [], [] => True
  | v :: vs, x :: xs => (∃ p us, v = .ref p ∧ H p = some (.tup us) ∧ TrA H us x) ∧ BtA H vs xs
  | _, _ => False
theorem BtA.mono {H H' : Hp} (k : KTu H H') : ∀ {vs : List V} {xs : List (List Trip)}, BtA H vs xs → BtA H' vs xs
  | [], [], _ => trivial
  | v :: vs, x :: xs, ⟨⟨p, us, e, h, t⟩, r⟩ => ⟨⟨p, us, e, k _ _ h, t.mono k⟩, BtA.mono k r⟩
  | [], _ :: _, h => h.elim
  | _ :: _, [], h => h.elim
theorem BtA.snoc {H : Hp} {v : V} {x : List Trip} (hv : ∃ p us, v = .ref p ∧ H p = some (.tup us) ∧ TrA H us x) : ∀ {vs : List V} {xs : List (List Trip)}, BtA H vs xs → BtA H (vs ++ [v]) (xs ++ [x])
  | [], [], _ => ⟨hv, trivial⟩
  | _ :: _, _ :: _, ⟨h, r⟩ => ⟨h, BtA.snoc hv r⟩
  | [], _ :: _, h => h.elim
  | _ :: _, [], h => h.elim
theorem BtA.len {H : Hp} : ∀ {vs : List V} {xs : List (List Trip)}, BtA H vs xs → vs.length = xs.length
  | [], [], _ => rfl
  | _ :: _, _ :: _, ⟨_, r⟩ => by rw [List.length_cons, List.length_cons, r.len]
  | [], _ :: _, h => h.elim
  | _ :: _, [], h => h.elim
def pD (ts : List Trip) : PyData := .tuple (ts.map bD)
theorem BtA.dp {K : PySem.W.Frag} {H : Hp} : ∀ {vs : List V} {xs : List (List Trip)}, BtA H vs xs → DpAll K H vs (xs.map pD)
  | [], [], _ => .nil
  | _ :: _, x :: _, ⟨⟨p, us, e, h, t⟩, r⟩ => by subst e; exact .cons (.tup (.inl (.inl h)) t.dp) r.dp
  | [], _ :: _, h => h.elim
  | _ :: _, [], h => h.elim
/-! ### how they are shown -/
theorem nd_weight7 : ∀ ns : List Nat, (∀ n ∈ ns, n < 128) → PyData.weightAll (nd' ns) ≤ 8 * ns.length
  | [], _ => Nat.le_refl _
  | n :: ns, h => by
    have h1 : n < 2 ^ 7 := h n List.mem_cons_self
    have ih := nd_weight7 ns fun m hm => h m (List.mem_cons_of_mem _ hm)
    have e : PyData.weight (.int (n : Int)) ≤ 7 := by
      simp only [PyData.weight]
      by_cases z : n = 0
      · subst z; decide
      · have := (Nat.log2_lt z).mpr h1
        rw [if_neg (by simpa using z)]
        simp
        omega
    show PyData.weight (.int (n : Int)) + 1 + PyData.weightAll (nd' ns) ≤ 8 * (ns.length + 1)
    omega
structure Ok2 (d : PyData) (W D : Nat) : Prop where
  sh : d.showable = true
  di : d.hasDict = false
  de : d.depth ≤ D
  lv : d.leavesShort 64 = true
  we : d.weight ≤ W
  ca : d.canLay0 = true
theorem ok2_all {W D : Nat} : ∀ ds : List PyData, (∀ d ∈ ds, Ok2 d W D) → PyData.showableAll ds = true ∧ PyData.hasDictAll ds = false ∧ PyData.depthAll ds ≤ D ∧ PyData.leavesShortAll 64 ds = true ∧ PyData.weightAll ds ≤ (W + 1) * ds.length ∧ PyData.canLayAll0 ds = true
  | [], _ => ⟨rfl, rfl, Nat.zero_le _, rfl, Nat.le_refl _, rfl⟩
  | d :: ds, h => by
    obtain ⟨a1, a2, a3, a4, a5, a6⟩ := ok2_all ds fun x hx => h x (List.mem_cons_of_mem _ hx)
    have o := h d List.mem_cons_self
    refine ⟨?_, ?_, ?_, ?_, ?_, ?_⟩
    · show (PyData.showable d && PyData.showableAll ds) = true
      rw [o.sh, a1]
      rfl
    · show (PyData.hasDict d || PyData.hasDictAll ds) = false
      rw [o.di, a2]
      rfl
    · show max (PyData.depth d) (PyData.depthAll ds) ≤ D
      have := o.de
      omega
    · show (PyData.leavesShort 64 d && PyData.leavesShortAll 64 ds) = true
      rw [o.lv, a4]
      rfl
    · show PyData.weight d + 1 + PyData.weightAll ds ≤ (W + 1) * (ds.length + 1)
      have := o.we
      rw [Nat.mul_add, Nat.mul_one]
      omega
    · show (PyData.canLay0 d && PyData.canLayAll0 ds) = true
      rw [o.ca, a6]
      rfl
theorem ok2_bD {x : Trip} (h : x.1 < 128 ∧ x.2.1 < 128 ∧ x.2.2 < 128) : Ok2 (bD x) 24 2 := by
  have hl : ∀ n ∈ [x.1, x.2.1, x.2.2], n < 128 := fun n hn => by
    simp only [List.mem_cons, List.not_mem_nil, or_false] at hn
    rcases hn with rfl | rfl | rfl
    · exact h.1
    · exact h.2.1
    · exact h.2.2
  have hl2 : ∀ n ∈ [x.1, x.2.1, x.2.2], n < 2 ^ 61 := fun n hn => Nat.lt_trans (hl n hn) (by decide)
  exact ⟨nd_show _ hl2, nd_dict _, nd_dep _, nd_leaves _ hl2, nd_weight7 _ hl, nd_canAll _⟩
theorem ok2_tup {ds : List PyData} {W D n : Nat} (h : ∀ d ∈ ds, Ok2 d W D) (hn : ds.length ≤ n) : Ok2 (.tuple ds) ((W + 1) * n) (D + 1) := by
  obtain ⟨a1, a2, a3, a4, a5, a6⟩ := ok2_all ds h
  refine ⟨a1, a2, ?_, a4, ?_, a6⟩
  · show PyData.depthAll ds + 1 ≤ D + 1
    omega
  · show PyData.weightAll ds ≤ (W + 1) * n
    exact Nat.le_trans a5 (Nat.mul_le_mul_left _ hn)
theorem plan_ok {q m s : Nat} (hq : 0 < q) (hq6 : q ≤ 6) (hm : 0 < m) (hm6 : m ≤ 60) : Ok2 (.tuple ((tsL q m s (m - 1 + q)).map pD)) ((25 * 64 + 1) * 65) 4 := by
  refine ok2_tup (W := 25 * 64) (D := 3) (fun d hd => ?_) ?_
  · obtain ⟨ts, hts, rfl⟩ := List.mem_map.mp hd
    unfold tsL at hts
    obtain ⟨t, _, rfl⟩ := List.mem_map.mp hts
    refine ok2_tup (W := 24) (D := 2) (fun e he => ?_) ?_
    · obtain ⟨x, hx, rfl⟩ := List.mem_map.mp he
      exact ok2_bD (trL_small hq hq6 hm hm6 x hx)
    · rw [List.length_map]
      have := trL_len q m s t (2 ^ q)
      have hz : 2 ^ q ≤ 2 ^ 6 := Nat.pow_le_pow_right (by decide) hq6
      omega
  · unfold tsL
    rw [List.length_map, List.length_map, List.length_range]
    omega
theorem plan_shown {q m s : Nat} (hq : 0 < q) (hq6 : q ≤ 6) (hm : 0 < m) (hm6 : m ≤ 60) : (PyData.tuple ((tsL q m s (m - 1 + q)).map pD)).shown.length ≤ sizeLine := by
  have o := plan_ok (s := s) hq hq6 hm hm6
  have h1 := PyData.shown_le 64 (by decide) _ o.lv
  have h2 := o.we
  rw [sizeLine_eq]
  have h3 : (64 + 2) * PyData.weight (.tuple ((tsL q m s (m - 1 + q)).map pD)) ≤ 66 * ((25 * 64 + 1) * 65) := Nat.mul_le_mul (by decide) h2
  omega
theorem plan_shaped {q m s : Nat} (hq : 0 < q) (hq6 : q ≤ 6) (hm : 0 < m) (hm6 : m ≤ 60) : SeqAt.shaped (.tuple ((tsL q m s (m - 1 + q)).map pD)) = true := by
  have o := plan_ok (s := s) hq hq6 hm hm6
  unfold SeqAt.shaped
  rw [o.ca, Bool.true_and]
  exact decide_eq_true (Nat.le_trans o.de (by decide))
/-! ### how far the next bit is -/
def upL (q d k n : Nat) : List Nat := ((List.range n).map (· + 1)).filter fun f => d.testBit ((k + f) % q)
theorem upL_succ (q d k n : Nat) : upL q d k (n + 1) = upL q d k n ++ (if d.testBit ((k + (n + 1)) % q) = true then [n + 1] else []) := by
  unfold upL
  rw [List.range_succ, List.map_append, List.filter_append]
  by_cases h : d.testBit ((k + (n + 1)) % q) = true
  · simp [h]
  · simp [h]
theorem upL_len (q d k n : Nat) : (upL q d k n).length ≤ n := by
  unfold upL
  have := List.length_filter_le (fun f => d.testBit ((k + f) % q)) ((List.range n).map (· + 1))
  rw [List.length_map, List.length_range] at this
  exact this
theorem upL_rb (q d k : Nat) : (upL q d k q).map (fun f => (k + f) % q) = rb q d (k + 1) := by
  unfold upL rb
  rw [List.filter_map, List.filter_map, List.map_map]
  have e : ∀ i, (k + (i + 1)) % q = (k + 1 + i) % q := fun i => by rw [Nat.add_assoc k 1 i, Nat.add_comm 1 i]
  have e2 : ((fun f => (k + f) % q) ∘ fun x => x + 1) = fun i => (k + 1 + i) % q := funext e
  have e3 : ((fun f => d.testBit ((k + f) % q)) ∘ fun x => x + 1) = ((fun x => d.testBit x) ∘ fun i => (k + 1 + i) % q) := funext fun i => by
    show d.testBit ((k + (i + 1)) % q) = d.testBit ((k + 1 + i) % q)
    rw [e]
  rw [e2, e3]
theorem up_is {q d k : Nat} (hq : 0 < q) (hk : k < q) (b : d.testBit k = true) : ∃ u rest, upL q d k q = u :: rest ∧ 1 ≤ u ∧ u ≤ q ∧ ltF q d k = (q - u) % q := by
  have h1 := trF_head hk b
  rw [← upL_rb] at h1
  cases e : upL q d k q with
  | nil => rw [e] at h1; cases h1
  | cons u rest =>
    rw [e] at h1
    have h2 : (k + u) % q = trF q d k := Option.some.inj h1
    have hu : u ∈ upL q d k q := by rw [e]; exact List.mem_cons_self
    unfold upL at hu
    obtain ⟨i, hi, rfl⟩ := List.mem_map.mp (List.mem_filter.mp hu).1
    have hi := List.mem_range.mp hi
    refine ⟨i + 1, rest, rfl, by omega, by omega, ?_⟩
    have h3 := ltF_in hq b
    rw [← h2] at h3
    have h4 : ar q ((k + (i + 1)) % q) k = (((q - (i + 1)) % q : Nat) : Int) := by
      unfold ar
      rw [Int.natCast_emod, Int.natCast_emod, Int.sub_emod, Int.emod_emod, ← Int.sub_emod]
      have e5 : ((k : Int) - ((k + (i + 1) : Nat) : Int)) = ((q - (i + 1) : Nat) : Int) + (q : Int) * (-1) := by omega
      rw [e5, Int.add_mul_emod_self_left]
    rw [h4] at h3
    exact Int.ofNat.inj h3
end Bf
namespace Bf
open PySem PySem.Spec PyProof.Rows L2 LamX NdefX
/-! ### t * k for k from 0 on -/
theorem tuple_mulZ (l : Addr) (items : Array Value) (n : Nat) (dd : Option Addr) (sl : Array (Option Value)) (x : Int) (u : Tok) (c0 : (decide (x < -(2 ^ 63)) || decide (x ≥ 2 ^ 63)) = false) (c1 : (items.isEmpty || x == 1) = false) (c2 : (decide (x ≤ 0) || items.isEmpty) = true) :
    Meets (Builtin.«tuple.__mul__» ⟨[.ref l, .int x u], []⟩) (fun _ R s => s.heap.get? l = some { cls := .type "tuple", dict := dd, data := .seq items n, slots := sl } ∧
      R (.ok (.ret (Value.ref s.heap.objs.size))) { s with heap := s.heap.push { cls := Value.type "tuple", data := Data.seq #[] }, toks := s.toks }) :=
  .of_wp fun prog w A R s h => by
    obtain ⟨hp, g, d, tk, os⟩ := s
    obtain ⟨hl, h⟩ := h
    have f1 := AutoSeq1.idx_int
    wp_walk using wpAny_loadPart' hl
    repeat (first
      | (refine wpAny_ite_false (decide_eq_false (by rw [c0]; exact Bool.false_ne_true)) ?_; wp_walk using wpAny_loadPart' hl)
      | (refine wpAny_ite_false (decide_eq_false (by rw [c1]; exact Bool.false_ne_true)) ?_; wp_walk using wpAny_loadPart' hl)
      | (refine wpAny_ite_true (decide_eq_true c2) ?_; wp_walk using wpAny_loadPart' hl))
    exact ⟨_, rfl, h⟩
def rRepZ (K : PySem.W.Frag) : R2 := fun x y H Q => ∃ l k xs, x = .ref l ∧ y = .int k ∧ SqT K H l xs ∧ xs ≠ [] ∧ 0 ≤ k ∧ k ≤ 1000 ∧ xs.length ≤ 1000 ∧
  (k = 1 → Q (.ref l) H) ∧ (k ≠ 1 → ∀ p, H p = none → Q (.ref p) (upd H p (.tup (List.replicate k.toNat xs).flatten)))
theorem op_repZ {X : Cx} : OpR X (binaryOp .Mult) (rRepZ X.K) := by
  intro pins s σ H x y v u Q I rx ry h
  obtain ⟨l, k, xs, rfl, rfl, hT, hne, h1, h2, hz, q1, q2⟩ := h
  by_cases hk : 2 ≤ k
  · exact op_repT pins s σ H _ _ v u Q I rx ry ⟨l, k, xs, rfl, rfl, hT, hne, hk, h2, hz, q2 (by omega)⟩
  cases rx
  obtain ⟨t, rfl⟩ := ry
  obtain ⟨its, r, ⟨⟨cls, dd, data, sl⟩, ho, hc, n, hd⟩, hs⟩ := I.tuple hT
  simp only at hc hd
  subst hc hd
  have hle : its.length = xs.length := r.length.symm
  have hn : its ≠ [] := fun e => hne (by
    rw [e] at hle
    exact List.eq_nil_of_length_eq_zero hle.symm)
  have hi : its.toArray.isEmpty = false := by
    cases its with
    | nil => exact absurd rfl hn
    | cons a b => rfl
  have c0 : (decide (k < -(2 ^ 63)) || decide (k ≥ 2 ^ 63)) = false := by
    rw [decide_eq_false (by omega), decide_eq_false (by omega)] <;> rfl
  by_cases h0 : k = 1
  · subst h0
    exact wpAny_binaryOp_repeat_ref (T := "tuple") (U := "int") (by decide) ⟨_, ho, rfl⟩ (fun s' => typeIs_int s' 1 t) noFill_tuple_mul F.fills_int_mul F.slot_int_rmul repeat_tuple F.slot_int_index.lookup
      (call_meets F.slot_int_rmul (typeIs_int s 1 t) F.entry_int_rmul (F.args_int_rmul_2 _ _) (int_rmul_tuple 1 t l its.toArray n dd sl)
        ⟨ho, rfl, ⟨_, ho, rfl⟩, call_meets F.slot_tuple_mul ⟨_, ho, rfl⟩ F.entry_tuple_mul (F.args_tuple_mul_2 _ _) (tuple_mul0 l its.toArray n dd sl 1 t c0 (by rw [hi]; rfl)) ⟨ho, ⟨.ref l, H, I, rfl, q1 rfl⟩⟩⟩)
  · have hk0 : k = 0 := by omega
    subst hk0
    have c1 : (its.toArray.isEmpty || (0 : Int) == 1) = false := by
      rw [hi]
      rfl
    have c2 : (decide ((0 : Int) ≤ 0) || its.toArray.isEmpty) = true := rfl
    refine wpAny_binaryOp_repeat_ref (T := "tuple") (U := "int") (by decide) ⟨_, ho, rfl⟩ (fun s' => typeIs_int s' 0 t) noFill_tuple_mul F.fills_int_mul F.slot_int_rmul repeat_tuple F.slot_int_index.lookup
      (call_meets F.slot_int_rmul (typeIs_int s 0 t) F.entry_int_rmul (F.args_int_rmul_2 _ _) (int_rmul_tuple 0 t l its.toArray n dd sl)
        ⟨ho, rfl, ⟨_, ho, rfl⟩, call_meets F.slot_tuple_mul ⟨_, ho, rfl⟩ F.entry_tuple_mul (F.args_tuple_mul_2 _ _) (tuple_mulZ l its.toArray n dd sl 0 t c0 c1 c2) ⟨ho, ?_⟩⟩)
    refine ⟨.ref s.heap.objs.size, _, I.laid (t' := s.toks) (o := .tup (List.replicate (0 : Int).toNat xs).flatten) (fun b ob q => Heap.get?_push_of_some _ q) (Nat.le_refl _) ?_, rfl, q2 (by decide) _ (I.hok.fresh (Nat.le_refl _))⟩
    exact ⟨Nat.zero_le _, [], .nil, IsTup.new _ _⟩
/-! ### walks -/
theorem walk_revT {K : PySem.W.Frag} {a : Addr} {xs : List V} : Walk (RT.ItvT K a xs.length) xs.length (fun H => SqT K H a xs) (fun i H x H' => H' = H ∧ xs[xs.length - 1 - i]? = some x) :=
  ⟨fun i _ hi q => ⟨hi, xs, xs[xs.length - 1 - i]'(by omega), q, by simp [show xs.length - 1 - i < xs.length by omega]⟩, fun _ _ => Nat.le_refl _, fun _ _ _ _ _ q y => ⟨y.1, y.2 xs q⟩⟩
theorem walk_zipT {K : PySem.W.Frag} {a b : Addr} {xs ys : List V} {n : Nat} (hn : n = min xs.length ys.length) : Walk (RZ.ItzT K a b) n (fun H => SqT K H a xs ∧ SqT K H b ys) (YPair (fun i => xs[i]?) (fun i => ys[i]?)) := by
  subst hn
  refine ⟨fun i _ hi q => ?_, fun _ q => ⟨xs, ys, q.1, q.2, by omega⟩, fun i H v H' _ q y => ?_⟩
  · have h1 : i < xs.length := by omega
    have h2 : i < ys.length := by omega
    exact ⟨xs, ys, xs[i], ys[i], q.1, q.2, by simp [h1], by simp [h2]⟩
  · obtain ⟨T, x, z, h1, h2, h3, h4, h5⟩ := y
    exact ⟨T, x, z, h1, h2, h3, h4 xs q.1, h5 ys q.2⟩
/-! ### what a row comes to -/
def ev : List Nat → Nat → Nat
  | [], _ => 0
  | a :: as, x => a + x * ev as x
theorem ev_snoc (x a : Nat) : ∀ ns : List Nat, ev (ns ++ [a]) x = ev ns x + a * x ^ ns.length
  | [] => by simp [ev]
  | b :: ns => by
    show b + x * ev (ns ++ [a]) x = b + x * ev ns x + a * x ^ (ns.length + 1)
    rw [ev_snoc x a ns, Nat.mul_add, Nat.pow_succ]
    have : x * (a * x ^ ns.length) = a * (x ^ ns.length * x) := by rw [Nat.mul_left_comm, Nat.mul_comm x]
    omega
theorem ev_zeros (x : Nat) (ns : List Nat) : ∀ k, ev (ns ++ List.replicate k 0) x = ev ns x
  | 0 => by rw [List.replicate_zero, List.append_nil]
  | k + 1 => by
    rw [List.replicate_succ', ← List.append_assoc, ev_snoc, ev_zeros x ns k]
    simp
theorem ev_more (p x c : Nat) : ∀ as bs : List Nat, as.length = bs.length → ev ((as.zip bs).map fun ab => (ab.1 + c * ab.2) % p) x % p = (ev as x + c * ev bs x) % p
  | [], [], _ => by simp [ev]
  | a :: as, b :: bs, h => by
    have ih := ev_more p x c as bs (by simpa using h)
    show ((a + c * b) % p + x * ev ((as.zip bs).map fun ab => (ab.1 + c * ab.2) % p) x) % p = (a + x * ev as x + c * (b + x * ev bs x)) % p
    rw [Nat.add_mod, Nat.mod_mod, Nat.mul_mod, ih, ← Nat.mul_mod, ← Nat.add_mod]
    congr 1
    rw [Nat.mul_add, Nat.mul_add, Nat.mul_left_comm c x]
    omega
theorem ev_step {p x a : Nat} {as : List Nat} : (ev as x % p * x + a) % p = ev (a :: as) x % p := by
  show _ = (a + x * ev as x) % p
  rw [Nat.add_comm a, Nat.mul_comm x, Nat.add_mod, Nat.mul_mod, Nat.mod_mod, ← Nat.mul_mod, ← Nat.add_mod]
theorem ev_pow {p x a : Nat} {as : List Nat} : (ev as x % p + a * (x ^ as.length % p)) % p = ev (as ++ [a]) x % p := by
  rw [ev_snoc, Nat.add_mod, Nat.mod_mod, Nat.mul_mod, Nat.mod_mod, ← Nat.mul_mod, ← Nat.add_mod]
theorem pow_step {p x n : Nat} : x ^ n % p * x % p = x ^ (n + 1) % p := by
  rw [Nat.pow_succ, Nat.mul_mod, Nat.mod_mod, ← Nat.mul_mod]
theorem rep_zero : ∀ k : Nat, (List.replicate k [V.int 0]).flatten = nv (List.replicate k 0)
  | 0 => rfl
  | k + 1 => by
    rw [List.replicate_succ, List.flatten_cons, rep_zero k, List.replicate_succ]
    rfl
/-! ### how rows are shown -/
theorem ok2_row {ns : List Nat} (h : ∀ n ∈ ns, n < 2 ^ 61) (hl : ns.length ≤ 100) : Ok2 (.tuple (nd' ns)) 6300 2 := by
  refine ⟨nd_show _ h, nd_dict _, nd_dep _, nd_leaves _ h, ?_, nd_canAll _⟩
  have h2 : PyData.weight (.tuple (nd' ns)) ≤ 63 * ns.length := nd_weight ns h
  omega
theorem two_shown {ds : List PyData} (h : ∀ d ∈ ds, Ok2 d 6300 2) (hl : ds.length ≤ 2) : (PyData.showableAll ds = true ∧ PyData.hasDictAll ds = false ∧ PyData.depthAll ds + 1 < 60) ∧ (PyData.tuple ds).shown.length ≤ sizeLine ∧ (PyData.list ds).shown.length ≤ sizeLine := by
  obtain ⟨a1, a2, a3, a4, a5, a6⟩ := ok2_all ds h
  refine ⟨⟨a1, a2, by omega⟩, ?_, ?_⟩
  · have h1 := PyData.shown_le 64 (by decide) (.tuple ds) a4
    have h2 : PyData.weight (.tuple ds) ≤ 6301 * ds.length := a5
    rw [sizeLine_eq]
    have h3 : (64 + 2) * PyData.weight (.tuple ds) ≤ 66 * (6301 * 2) := Nat.mul_le_mul (by decide) (by omega)
    omega
  · have h1 := PyData.shown_le 64 (by decide) (.list ds) a4
    have h2 : PyData.weight (.list ds) ≤ 6301 * ds.length := a5
    rw [sizeLine_eq]
    have h3 : (64 + 2) * PyData.weight (.list ds) ≤ 66 * (6301 * 2) := Nat.mul_le_mul (by decide) (by omega)
    omega
end Bf
namespace Bf
open PySem PySem.Spec PyProof.Rows L2 LamX NdefX
/-! ### t * k for any small k -/
def rRepI (K : PySem.W.Frag) : R2 := fun x y H Q => ∃ l k xs, x = .ref l ∧ y = .int k ∧ SqT K H l xs ∧ xs ≠ [] ∧ -1000 ≤ k ∧ k ≤ 1000 ∧ xs.length ≤ 1000 ∧
  (k = 1 → Q (.ref l) H) ∧ (k ≠ 1 → ∀ p, H p = none → Q (.ref p) (upd H p (.tup (List.replicate k.toNat xs).flatten)))
theorem op_repI {X : Cx} : OpR X (binaryOp .Mult) (rRepI X.K) := by
  intro pins s σ H x y v u Q I rx ry h
  obtain ⟨l, k, xs, rfl, rfl, hT, hne, h1, h2, hz, q1, q2⟩ := h
  by_cases hk : 0 ≤ k
  · exact op_repZ pins s σ H _ _ v u Q I rx ry ⟨l, k, xs, rfl, rfl, hT, hne, hk, h2, hz, q1, q2⟩
  cases rx
  obtain ⟨t, rfl⟩ := ry
  obtain ⟨its, r, ⟨⟨cls, dd, data, sl⟩, ho, hc, n, hd⟩, hs⟩ := I.tuple hT
  simp only at hc hd
  subst hc hd
  have hle : its.length = xs.length := r.length.symm
  have hi : its.toArray.isEmpty = false := by
    cases its with
    | nil => exact absurd (List.eq_nil_of_length_eq_zero hle.symm) hne
    | cons a b => rfl
  have c0 : (decide (k < -(2 ^ 63)) || decide (k ≥ 2 ^ 63)) = false := by
    rw [decide_eq_false (by omega), decide_eq_false (by omega)] <;> rfl
  have c1 : (its.toArray.isEmpty || k == 1) = false := by
    rw [hi, Bool.false_or]
    exact beq_eq_false_iff_ne.mpr (by omega)
  have c2 : (decide (k ≤ 0) || its.toArray.isEmpty) = true := by rw [decide_eq_true (show k ≤ 0 by omega)]; rfl
  have e0 : k.toNat = 0 := by omega
  refine wpAny_binaryOp_repeat_ref (T := "tuple") (U := "int") (by decide) ⟨_, ho, rfl⟩ (fun s' => typeIs_int s' k t) noFill_tuple_mul F.fills_int_mul F.slot_int_rmul repeat_tuple F.slot_int_index.lookup
    (call_meets F.slot_int_rmul (typeIs_int s k t) F.entry_int_rmul (F.args_int_rmul_2 _ _) (int_rmul_tuple k t l its.toArray n dd sl)
      ⟨ho, rfl, ⟨_, ho, rfl⟩, call_meets F.slot_tuple_mul ⟨_, ho, rfl⟩ F.entry_tuple_mul (F.args_tuple_mul_2 _ _) (tuple_mulZ l its.toArray n dd sl k t c0 c1 c2) ⟨ho, ?_⟩⟩)
  refine ⟨.ref s.heap.objs.size, _, I.laid (t' := s.toks) (o := .tup (List.replicate k.toNat xs).flatten) (fun b ob q => Heap.get?_push_of_some _ q) (Nat.le_refl _) ?_, rfl, q2 (by omega) _ (I.hok.fresh (Nat.le_refl _))⟩
  rw [e0]
  exact ⟨Nat.zero_le _, [], .nil, IsTup.new _ _⟩
/-- (0,) * k -/
theorem rep_zeros {K : PySem.W.Frag} {l : Addr} {k : Int} {H : Hp} {Q : VK} (hT : SqT K H l [V.int 0]) (h1 : -1000 ≤ k) (h2 : k ≤ 1000) (h : ∀ q H', Same H H' → SqT K H' q (nv (List.replicate k.toNat 0)) → Q (.ref q) H') : rRepI K (.ref l) (.int k) H Q := by
  refine ⟨l, k, [V.int 0], rfl, rfl, hT, by simp, h1, h2, by simp, fun e => ?_, fun _ p np => ?_⟩
  · subst e
    exact h l H (Same.refl H) hT
  · refine h p _ (same_new (Same.refl H) np) (.inl (.inl ?_))
    rw [upd_same, rep_zero]
end Bf
namespace Bf
open PySem PySem.Spec PyProof.Rows L2
open AutoSeq1 (wpAny_loadPart')
/-! ### enumerate(tuple) -/
theorem new_enumT (tu : Addr) (its : Array Value) (c : Nat) (dd : Option Addr) (sls : Array (Option Value)) :
    Meets (Builtin.«enumerate.__new__» ⟨[.type "enumerate", .ref tu], []⟩) (fun _ R s => s.heap.get? tu = some { cls := .type "tuple", dict := dd, data := .seq its c, slots := sls } ∧
      R (.ok (.ret (.ref (s.heap.push { cls := .type "tuple_iterator", data := .fields #[.ref tu, .int 0 0] }).objs.size)))
        { s with heap := (s.heap.push { cls := .type "tuple_iterator", data := .fields #[.ref tu, .int 0 0] }).push { cls := .type "enumerate", data := .fields #[.none, .bool false, .ref s.heap.objs.size, rawInt 0, .none, .none] } }) := by
  refine .of_wp fun prog w A R s hh => ?_
  obtain ⟨hp, g, d, tk, os⟩ := s
  obtain ⟨ht, hh⟩ := hh
  have subE := sub_enumerate
  have hT : Heap.IsTuple (Shared.heap ⟨hp, g, d, tk, os⟩) tu its := ⟨_, ht, rfl, c, rfl⟩
  wp_walk using wpAny_loadPart' ht
  refine wpAny_stack_any fun st => wpAny_pure ?_
  split
  · rename_i cc _ _ _ _ _
    cases (cc == Value.type "enumerate")
    · wp_walk using wpAny_loadPart' ht, wpAny_pyIter_tuple hT
      exact ⟨_, rfl, hh⟩
    · wp_walk using wpAny_loadPart' ht, wpAny_pyIter_tuple hT
      exact ⟨_, rfl, hh⟩
  · wp_walk using wpAny_loadPart' ht, wpAny_pyIter_tuple hT
    exact ⟨_, rfl, hh⟩
theorem call_enumT {prog : Program} {w : World} {A : Around} {E : Value → Shared → Prop} {s : Shared} {tu : Addr} {its : Array Value} {Q : Value → Shared → Prop} (hT : s.heap.IsTuple tu its)
    (go : ∀ h', IsEnum h' (s.heap.objs.size + 1) s.heap.objs.size 0 .none → h'.IsTupleIter s.heap.objs.size tu 0 → (∀ b o, s.heap.get? b = some o → h'.get? b = some o) → Q (.ref (s.heap.objs.size + 1)) { s with heap := h' }) : wpAny (model prog w) A (call (.type "enumerate") [.ref tu]) Q E s := by
  obtain ⟨⟨cl, dd, dt, sls⟩, ht, hc, c, hd⟩ := hT
  have hc : cl = .type "tuple" := hc
  have hd : dt = .seq its c := hd
  subst hc hd
  refine callType_new F.called_enumerate (by decide) (F.typeCall_enumerate_1 _) (F.newCall_enumerate_1 _) (fun ob => F.args_object_init_2 ob _) F.entry_enumerate_new (new_enumT tu its c dd sls) ⟨ht, ?_⟩
  generalize hh1 : s.heap.push { cls := .type "tuple_iterator", data := .fields #[.ref tu, .int 0 0] } = h1
  have z1 : h1.objs.size = s.heap.objs.size + 1 := by rw [← hh1]; exact Heap.size_push ..
  have g1 : h1.IsTupleIter s.heap.objs.size tu 0 := by rw [← hh1]; exact ⟨_, Heap.get?_push_size _ rfl, rfl, rfl⟩
  have k1 : ∀ b o, s.heap.get? b = some o → h1.get? b = some o := fun b o e => by rw [← hh1]; exact Heap.get?_push_of_some _ e
  show _ ∧ _
  rw [z1]
  have en : IsEnum (h1.push { cls := .type "enumerate", data := .fields #[.none, .bool false, .ref s.heap.objs.size, rawInt 0, .none, .none] }) (s.heap.objs.size + 1) s.heap.objs.size 0 .none := by
    have q := Heap.get?_push_size h1 (o := { cls := .type "enumerate", data := .fields #[.none, .bool false, .ref s.heap.objs.size, rawInt 0, .none, .none] }) rfl
    rw [z1] at q
    exact q
  refine ⟨⟨_, en, rfl⟩, go _ en (g1.at fun o e => Heap.get?_push_of_some _ e) fun b o e => Heap.get?_push_of_some _ (k1 b o e)⟩
/-- the tuple at a, each item in a new pair -/
def IteT (K : PySem.W.Frag) (a : Addr) : It where
  go := fun i H => ∃ (us : List V) (u : V), SqT K H a us ∧ us[i]? = some u
  yld := fun i H v H' => ∃ T u, v = .ref T ∧ H T = none ∧ H' = upd H T (.tup [.int (i : Nat), u]) ∧ ∀ us, SqT K H a us → us[i]? = some u
  stop := fun i H => ∃ us : List V, SqT K H a us ∧ us.length = i
theorem turn_enT {P : Program} {w : World} {K : PySem.W.Frag} {elts : List Expr} {kk : Nat} {tpos : Pos} (a e it : Addr) :
    Turn P w K (.Tuple elts kk tpos) (IteT K a) [e, it] e (fun i h => (∃ old, IsEnum h e it ((i : Nat) : Int) old) ∧ h.IsTupleIter it a i ∧ e ≠ it ∧ e ≠ a ∧ a ≠ it) where
  mem := by simp
  obj := by
    rintro i h ⟨⟨old, he⟩, ⟨o, ho, hc, hd⟩, _⟩ b hb
    rcases (show b = e ∨ b = it by simpa using hb) with rfl | rfl
    · exact ⟨_, he, fun v q => nomatch q⟩
    · exact ⟨o, ho, fun v q => by rw [hd] at q; cases q⟩
  keep := by
    rintro i h h' ⟨⟨old, he⟩, hi, hne⟩ k
    exact ⟨⟨old, k e (by simp) _ he⟩, hi.at fun o q => k it (by simp) o q, hne⟩
  item := by
    intro X hP hw hK hc i pins s σ H E I hf st hg
    subst hP hw hK
    obtain ⟨⟨old, he⟩, hit, n1, n2, n3⟩ := st
    obtain ⟨us, u, hq, hu⟩ := hg
    obtain ⟨its, rv, p, hz⟩ := I.tuple hq
    obtain ⟨val, hval, ru⟩ := rv.get hu
    have ltE : e < s.heap.objs.size := Heap.lt_size he
    have ltI : it < s.heap.objs.size := by obtain ⟨_, q, _⟩ := hit; exact Heap.lt_size q
    have hin : i < its.toArray.size := by
      have := (List.getElem?_eq_some_iff.mp hval).1
      simpa using this
    have pT : s.heap.IsTuple a its.toArray := p
    refine wpAny_pyNext_enum_itemD (Draws.tuple (A := X.A.in1) (I.ok.hd hc) it a n3 its.toArray) he ⟨hit, pT⟩ hin n1 (by simp [n1, n2]) fun x h' tk hx ho hst hT hsz hk => ?_
    have ex : x = val := by
      have h1 : its.toArray[i]? = some x := hx
      have h2 : its[i]? = some x := by simpa using h1
      exact Option.some.inj (h2.symm.trans hval)
    subst ex
    refine ⟨_, rfl, wpAny_letOwnedTupleGo_enum (s := { s with heap := h', toks := tk + 1 }) ho fun h'' he' sb => ?_⟩
    have hT2 : h''.get? s.heap.objs.size = some { cls := .type "tuple", data := .seq #[.int i tk, x] } := (sb.2 _ (Nat.ne_of_gt ltE)).trans hT
    have fresh : ObjOk X.prog X.w (upd H s.heap.objs.size (.tup [.int (i : Nat), u])) h'' s.heap.objs.size (.tup [.int (i : Nat), u]) := ⟨by show 2 ≤ sizeLine; decide, [.int i tk, x], .cons ⟨_, rfl⟩ (.cons ru .nil), ⟨_, hT2, rfl, _, rfl⟩⟩
    have I1 : Inv X pins σ (upd H s.heap.objs.size (.tup [.int (i : Nat), u])) { s with heap := h'', toks := tk + 1 } := by
      refine I.turnedNew (ch := [e, it]) (fun b ob hb q => ?_) hf (Nat.le_refl _) fresh
      have hb1 : b ≠ e := fun z => hb (by simp [z])
      have hb2 : b ≠ it := fun z => hb (by simp [z])
      exact (sb.2 b hb1).trans (hk b ob hb1 hb2 q)
    refine ⟨.ref s.heap.objs.size, _, I1, rfl, ⟨_, u, rfl, I.hok.fresh (Nat.le_refl _), rfl, fun ys hy => by rw [I.tuple_inj hy hq]; exact hu⟩, ⟨⟨x, ?_⟩, hst.1.at fun o q => (sb.2 it (Ne.symm n1)).trans q, n1, n2, n3⟩, fun b hb => ?_⟩
    · rw [show ((i + 1 : Nat) : Int) = (i : Int) + 1 by omega]
      exact he'
    · have lb : b < s.heap.objs.size := by
        rcases (show b = e ∨ b = it by simpa using hb) with rfl | rfl
        · exact ltE
        · exact ltI
      rw [upd_ne (Nat.ne_of_lt lb)]
      exact (hf b hb).1
  done := by
    intro X hP hw hK hc i pins s σ H E I hf st hg
    subst hP hw hK
    obtain ⟨⟨old, he⟩, hit, n1, n2, n3⟩ := st
    obtain ⟨us, hq, hu⟩ := hg
    obtain ⟨its, rv, p, hz⟩ := I.tuple hq
    have hl := rv.length
    obtain ⟨f0, f1, f2, f3, f4, f5⟩ := hf it (by simp)
    have pT : s.heap.IsTuple a its.toArray := p
    have ei : its.toArray.size = i := by simp; omega
    refine wpAny_pyNext_enum_endD (Draws.tuple (A := X.A.in1) (I.ok.hd hc) it a n3 its.toArray) he ⟨by rw [ei]; exact hit, pT⟩ fun h' eb => ⟨rfl, ?_⟩
    exact I.turned (t' := s.toks) (fun b o hb q => eb b o hb q) f0 f1 f3 f4 f5
  self := by
    rintro A i s Q E ⟨⟨_, he⟩, _⟩ h
    exact wpAny_pyIter_enum he h
def iEnT (K : PySem.W.Frag) (ta : TA) : TI := fun σ H R => ta σ H fun vs H1 => ∃ a us, vs = [.ref a] ∧ SqT K H1 a us ∧ R (IteT K a) H1
theorem pi_enT {X : Cx} {e : Expr} {ta : TA} {p pos tpos : Pos} {elts : List Expr} {kk : Nat} (hg : Gl X "enumerate") (hm : X.mg "enumerate" = none) (ha : PA X [e] ta) (hs : starEach [e] X.env = [(false, eval e X.env)] := by rfl) : PI X (.Tuple elts kk tpos) (.Call (.Name "enumerate" p) [e] [] pos) (iEnT X.K ta) := by
  constructor
  intro pins s σ H R I h
  refine Call_ (ld_blt I hg hm boot_enumerate (PyProof.Rows.callWith_type1 (thn (ha.run pos pins s σ H _ I h) fun ws s1 ⟨vs, H1, I1, r1, q1⟩ => ?_) hs rfl))
  obtain ⟨a, us, ex, hq, q⟩ := q1
  subst ex
  match ws, r1 with
  | _, .cons r .nil =>
    cases r
    obtain ⟨its, rv, pp, hz⟩ := I1.tuple hq
    have pT : s1.heap.IsTuple a its.toArray := pp
    have la : a < s1.heap.objs.size := by obtain ⟨_, ho, _⟩ := pT; exact Heap.lt_size ho
    refine call_enumT pT fun h' en hit kp => wpAny_pyIter_enum en ?_
    have I2 : Inv X pins σ H1 { s1 with heap := h' } := I1.kept (t' := s1.toks) kp
    refine ⟨s1.heap.objs.size + 1, [s1.heap.objs.size + 1, s1.heap.objs.size], _, _, H1, rfl, I2, turn_enT a (s1.heap.objs.size + 1) s1.heap.objs.size, ⟨⟨.none, en⟩, hit, Nat.succ_ne_self _, Ne.symm (Nat.ne_of_lt (Nat.lt_succ_of_lt la)), Nat.ne_of_lt la⟩, fun b hb => ?_, q⟩
    have lb : s1.heap.objs.size ≤ b := by
      rcases (show b = s1.heap.objs.size + 1 ∨ b = s1.heap.objs.size by simpa using hb) with rfl | rfl
      · exact Nat.le_add_right _ _
      · exact Nat.le_refl _
    exact I1.fpOk lb (I1.hok.fresh lb)
theorem walk_enT {K : PySem.W.Frag} {a : Addr} {us : List V} : Walk (IteT K a) us.length (fun H => SqT K H a us) (YPair (fun i => some (.int (i : Nat))) (fun i => us[i]?)) := by
  refine ⟨fun i H hi q => ⟨us, us[i], q, List.getElem?_eq_getElem hi⟩, fun H q => ⟨us, q, rfl⟩, fun i H v H' _ q y => ?_⟩
  obtain ⟨T, u, h1, h2, h3, h4⟩ := y
  exact ⟨T, .int (i : Nat), u, h1, h2, h3, rfl, h4 us q⟩
end Bf
namespace Bf
open PySem PySem.Spec PyProof.Rows L2 LamX NdefX
/-! ### small things for k11 -/
theorem pigeon {l : List Nat} {n : Nat} (nd : l.Nodup) (h : ∀ x ∈ l, x < n) : l.length ≤ n := by
  have p : l.Perm ((List.range n).filter fun x => decide (x ∈ l)) := by
    refine (List.perm_ext_iff_of_nodup nd (List.Pairwise.filter _ List.nodup_range)).mpr fun x => ?_
    rw [List.mem_filter, List.mem_range]
    exact ⟨fun hx => ⟨h x hx, decide_eq_true hx⟩, fun hx => of_decide_eq_true hx.2⟩
  rw [p.length_eq]
  have := List.length_filter_le (fun x => decide (x ∈ l)) (List.range n)
  rw [List.length_range] at this
  exact this
structure GI (q j s : Nat) (P W : List Nat) (ps : List (Nat × Nat)) : Prop where
  nd : (P ++ W).Nodup
  lt : ∀ x ∈ P ++ W, x < 2 ^ q
  src : s ∈ P ++ W
  par : ∀ x ∈ P ++ W, x ≠ s → tl q j s x ∈ P
  pnd : (ps.map (·.2)).Nodup
  pm : ∀ x, x ∈ ps.map (·.2) ↔ x < 2 ^ q ∧ tl q j s x ∈ P
  pt : ∀ pr ∈ ps, pr.1 = tl q j s pr.2
  cls : ∀ h x, h ∈ P → x < 2 ^ q → tl q j s x = h → x ≠ s → x ∈ P ++ W
theorem GI.start {q j s : Nat} (hs : s < 2 ^ q) : GI q j s [] [s] [] where
  nd := by simp
  lt := fun x hx => by
    have : x = s := by simpa using hx
    rw [this]
    exact hs
  src := by simp
  par := fun x hx hne => absurd (by simpa using hx) hne
  pnd := List.Pairwise.nil
  pm := fun x => by simp
  pt := fun pr h => absurd h List.not_mem_nil
  cls := fun h x hh => absurd hh List.not_mem_nil
theorem GI.step {q j s h : Nat} {P W ns : List Nat} {ps : List (Nat × Nat)} (g : GI q j s P (W ++ [h]) ps) (nn : ns.Nodup) (hn : ∀ x, x ∈ ns ↔ x < 2 ^ q ∧ tl q j s x = h) :
    GI q j s (P ++ [h]) (W ++ ns.filter fun x => !decide (x = s)) (ps ++ ns.map fun x => (h, x)) := by
  have hp : (P ++ (W ++ [h])).Perm (P ++ [h] ++ W) := by
    rw [List.append_assoc]
    exact List.Perm.append_left P List.perm_append_comm
  have nd1 : (P ++ [h] ++ W).Nodup := hp.nodup_iff.mp g.nd
  have hP : h ∉ P := fun z => by
    have := List.nodup_append.mp g.nd
    exact this.2.2 h z h (by simp) rfl
  have old : ∀ x, x ∈ P ++ [h] ++ W ↔ x ∈ P ++ (W ++ [h]) := fun x => hp.mem_iff.symm
  have fil : ∀ x, x ∈ ns.filter (fun x => !decide (x = s)) ↔ (x < 2 ^ q ∧ tl q j s x = h) ∧ x ≠ s := fun x => by
    rw [List.mem_filter, hn]
    simp
  refine ⟨?_, ?_, ?_, ?_, ?_, ?_, ?_, ?_⟩
  · rw [← List.append_assoc]
    refine List.nodup_append.mpr ⟨nd1, List.Pairwise.filter _ nn, fun a ha b hb e => ?_⟩
    subst e
    obtain ⟨⟨_, h2⟩, h3⟩ := (fil a).mp hb
    have := g.par a ((old a).mp ha) h3
    rw [h2] at this
    exact hP this
  · intro x hx
    rw [← List.append_assoc] at hx
    rcases List.mem_append.mp hx with hx | hx
    · exact g.lt x ((old x).mp hx)
    · exact ((fil x).mp hx).1.1
  · rw [← List.append_assoc]
    exact List.mem_append_left _ ((old s).mpr g.src)
  · intro x hx hne
    rw [← List.append_assoc] at hx
    rcases List.mem_append.mp hx with hx | hx
    · exact List.mem_append_left _ (g.par x ((old x).mp hx) hne)
    · rw [((fil x).mp hx).1.2]
      simp
  · have e : (ps ++ ns.map fun x => (h, x)).map (·.2) = ps.map (·.2) ++ ns := by
      rw [List.map_append, List.map_map]
      congr 1
      exact (List.map_congr_left fun x _ => rfl).trans (List.map_id ns)
    rw [e]
    refine List.nodup_append.mpr ⟨g.pnd, nn, fun a ha b hb e => ?_⟩
    subst e
    have h1 := ((g.pm a).mp ha).2
    rw [((hn a).mp hb).2] at h1
    exact hP h1
  · intro x
    have e : (ps ++ ns.map fun x => (h, x)).map (·.2) = ps.map (·.2) ++ ns := by
      rw [List.map_append, List.map_map]
      congr 1
      exact (List.map_congr_left fun x _ => rfl).trans (List.map_id ns)
    rw [e, List.mem_append, g.pm, hn, List.mem_append, List.mem_singleton]
    constructor
    · rintro (⟨a, b⟩ | ⟨a, b⟩)
      · exact ⟨a, .inl b⟩
      · exact ⟨a, .inr b⟩
    · rintro ⟨a, b | b⟩
      · exact .inl ⟨a, b⟩
      · exact .inr ⟨a, b⟩
  · intro pr hpr
    rcases List.mem_append.mp hpr with hpr | hpr
    · exact g.pt pr hpr
    · obtain ⟨x, hx, rfl⟩ := List.mem_map.mp hpr
      exact ((hn x).mp hx).2.symm
  · intro h' x hh' hx ht hne
    rw [← List.append_assoc]
    rcases List.mem_append.mp hh' with z | z
    · exact List.mem_append_left _ ((old x).mpr (g.cls h' x z hx ht hne))
    · rw [List.mem_singleton.mp z] at ht
      exact List.mem_append_right _ ((fil x).mpr ⟨⟨hx, ht⟩, hne⟩)
theorem tl_lt {q j s x : Nat} (hj : j < q) (hx : x < 2 ^ q) : tl q j s x < 2 ^ q := Nat.xor_lt_two_pow hx (Nat.pow_lt_pow_right (by decide) (cl_lt hj (List.getLast_mem _)))
theorem GI.all {q j s : Nat} {P : List Nat} {ps : List (Nat × Nat)} (hj : j < q) (hs : s < 2 ^ q) (g : GI q j s P [] ps) : ∀ x, x ∈ ps.map (·.2) ↔ x < 2 ^ q := fun x => by
  have src : s ∈ P := by simpa using g.src
  have all : ∀ y, y < 2 ^ q → y ∈ P := fun y hy => by
    by_cases e : y = s
    · rw [e]
      exact src
    · exact reach (P := fun z => z ∈ P) hj hs src (fun h x a b c d => by simpa using g.cls h x a b c d) _ y hy (Nat.le_refl _) e
  rw [g.pm]
  exact ⟨fun h => h.1, fun h => ⟨h, all _ (tl_lt hj h)⟩⟩
theorem GI.len {q j s : Nat} {P W : List Nat} {ps : List (Nat × Nat)} (g : GI q j s P W ps) : ps.length ≤ 2 ^ q ∧ P.length ≤ 2 ^ q := by
  constructor
  · have := pigeon g.pnd (n := 2 ^ q) fun x hx => ((g.pm x).mp hx).1
    rw [List.length_map] at this
    exact this
  · have := pigeon g.nd g.lt
    rw [List.length_append] at this
    omega
/-- a while whose measure stands in the invariant -/
theorem while_m {c : TT} {tb : TS} {D : Ends} {σ : L2.St} {H : Hp} (Pv : Nat → L2.St → Hp → Prop) (Ex : L2.St → Hp → Prop) (h0 : ∃ m, Pv m σ H)
    (hs : ∀ m σ H, Pv m σ H → c σ H fun b H1 => if b = true then tb { D with nx := fun σ' H' => ∃ m', m' < m ∧ Pv m' σ' H', ct := fun σ' H' => ∃ m', m' < m ∧ Pv m' σ' H', bk := D.nx } σ H1 else Ex σ H1)
    (he : ∀ σ H, Ex σ H → D.nx σ H) (mono : ∀ σ H Q Q', (∀ b H1, Q b H1 → Q' b H1) → c σ H Q → c σ H Q') : tWhile c tb D σ H := by
  refine ⟨Pv, h0, fun m σ H p => mono σ H _ _ (fun b H1 q => ?_) (hs m σ H p)⟩
  cases b with
  | true =>
    rw [if_pos rfl] at q
    first
      | exact q
      | exact iteT q
      | (rw [if_pos rfl]; exact ⟨_, fun σ' H' h => h, q⟩)
      | exact ⟨_, fun σ' H' h => h, q⟩
  | false =>
    rw [if_neg (by decide)] at q
    first
      | exact he _ _ q
      | (rw [if_neg (by decide)]; exact he _ _ q)
end Bf
namespace Bf
open PySem PySem.Spec PyProof.Rows L2 LamX NdefX
/-! ## data that values stand for; fp: the lists and dicts in it -/
def kD : Key → PyData
  | .inl i => .int i
  | .inr x => .str x
/-- a tuple as it is made -/
def TupR (H : Hp) (a : Addr) (xs : List V) : Prop := H a = some (.tup xs)
theorem TupR.q {K : PySem.W.Frag} {H : Hp} {a : Addr} {xs : List V} (h : TupR H a xs) : SqT K H a xs := .inl (.inl h)
theorem TupR.same {H H' : Hp} {a : Addr} {xs : List V} (s : Same H H') (h : TupR H a xs) : TupR H' a xs := s _ _ h
/-- what may change -/
def Mtb : HO → Prop
  | .lst _ => True
  | .dK _ => True
  | .dT _ => True
  | _ => False
mutual
inductive Im (K : PySem.W.Frag) (H : Hp) : V → PyData → List Addr → Prop
  | non : Im K H .non .none []
  | bl (b : Bool) : Im K H (.bl b) (.bool b) []
  | int (i : Int) : Im K H (.int i) (.int i) []
  | str (x : Str) : Im K H (.str x) (.str x) []
  | lst {a : Addr} {xs : List V} {ds : List PyData} {fp fq : List Addr} : H a = some (.lst xs) → ImA K H xs ds fp → fq = a :: fp → Im K H (.ref a) (.list ds) fq
  | tup {a : Addr} {xs : List V} {ds : List PyData} {fp : List Addr} : TupR H a xs → ImA K H xs ds fp → Im K H (.ref a) (.tuple ds) fp
  | dicK {a : Addr} {kvs : List (Key × V)} {ps : List (PyData × PyData)} {ds : List PyData} {fp fq : List Addr} : H a = some (.dK kvs) → ps.map Prod.fst = kvs.map (fun kv => kD kv.1) → ps.map Prod.snd = ds → ImA K H (kvs.map Prod.snd) ds fp → fq = a :: fp → Im K H (.ref a) (.dict ((.none, .none) :: ps)) fq
  | dicT {a : Addr} {kvs : List (List Key × V)} {ps : List (PyData × PyData)} {ds : List PyData} {fp fq : List Addr} : H a = some (.dT kvs) → ps.map Prod.fst = kvs.map (fun kv => .tuple (kv.1.map kD)) → ps.map Prod.snd = ds → ImA K H (kvs.map Prod.snd) ds fp → fq = a :: fp → Im K H (.ref a) (.dict ps) fq
inductive ImA (K : PySem.W.Frag) (H : Hp) : List V → List PyData → List Addr → Prop
  | nil : ImA K H [] [] []
  | cons {v : V} {vs : List V} {d : PyData} {ds : List PyData} {fp fq fr : List Addr} : Im K H v d fp → ImA K H vs ds fq → fr = fp ++ fq → ImA K H (v :: vs) (d :: ds) fr
end
section
variable {K : PySem.W.Frag} {H H' : Hp}
theorem Im.stab (ht : ∀ b xs, TupR H b xs → TupR H' b xs) (d : PyData) (v : V) (fp : List Addr) (h : Im K H v d fp) : (∀ b ∈ fp, ∀ o, H b = some o → Mtb o → H' b = some o) → Im K H' v d fp := by
  refine Im.rec (motive_1 := fun v d fp _ => (∀ b ∈ fp, ∀ o, H b = some o → Mtb o → H' b = some o) → Im K H' v d fp) (motive_2 := fun vs ds fp _ => (∀ b ∈ fp, ∀ o, H b = some o → Mtb o → H' b = some o) → ImA K H' vs ds fp) ?_ ?_ ?_ ?_ ?_ ?_ ?_ ?_ ?_ ?_ h
  · exact fun _ => .non
  · exact fun b _ => .bl b
  · exact fun b _ => .int b
  · exact fun b _ => .str b
  · rintro a xs ds fp fq e _ q ih hl
    subst q
    exact .lst (hl _ List.mem_cons_self _ e trivial) (ih fun b hb => hl b (List.mem_cons_of_mem _ hb)) rfl
  · exact fun e _ ih hl => .tup (ht _ _ e) (ih hl)
  · rintro a kvs ps ds fp fq e e1 e2 _ q ih hl
    subst q
    exact .dicK (hl _ List.mem_cons_self _ e trivial) e1 e2 (ih fun b hb => hl b (List.mem_cons_of_mem _ hb)) rfl
  · rintro a kvs ps ds fp fq e e1 e2 _ q ih hl
    subst q
    exact .dicT (hl _ List.mem_cons_self _ e trivial) e1 e2 (ih fun b hb => hl b (List.mem_cons_of_mem _ hb)) rfl
  · exact fun _ => .nil
  · rintro v vs d ds fp fq fr _ _ q ih1 ih2 hl
    subst q
    exact .cons (ih1 fun x hx => hl x (List.mem_append_left _ hx)) (ih2 fun x hx => hl x (List.mem_append_right _ hx)) rfl
theorem ImA.stab (ht : ∀ b xs, TupR H b xs → TupR H' b xs) : ∀ (ds : List PyData) (vs : List V) (fp : List Addr), ImA K H vs ds fp → (∀ b ∈ fp, ∀ o, H b = some o → Mtb o → H' b = some o) → ImA K H' vs ds fp
  | [], _, _, h, _ => by cases h; exact .nil
  | d :: ds, _, _, h, hl => by
    cases h with
    | cons a b q =>
      subst q
      exact .cons (Im.stab ht d _ _ a fun x hx => hl x (List.mem_append_left _ hx)) (ImA.stab ht ds _ _ b fun x hx => hl x (List.mem_append_right _ hx)) rfl
theorem hasDict_all {d : PyData} {ds : List PyData} (h : PyData.hasDictAll (d :: ds) = false) : d.hasDict = false ∧ PyData.hasDictAll ds = false := by
  have h : (PyData.hasDict d || PyData.hasDictAll ds) = false := h
  exact Bool.or_eq_false_iff.mp h
mutual
theorem Im.dpD : ∀ (d : PyData) (v : V) (fp : List Addr), Im K H v d fp → d.hasDict = false → Dp K H v d
  | .none, _, _, h, _ => by cases h; exact .non
  | .bool b, _, _, h, _ => by cases h; exact .bl b
  | .int b, _, _, h, _ => by cases h; exact .int b
  | .str b, _, _, h, _ => by cases h; exact .str b
  | .list ds, _, _, h, z => by
    cases h with
    | lst e a q => exact .lst (.inl (.inl e)) (ImA.dpD ds _ _ a z)
  | .tuple ds, _, _, h, z => by
    cases h with
    | tup e a => exact .tup e.q (ImA.dpD ds _ _ a z)
  | .dict kvs, _, _, h, z => by cases z
theorem ImA.dpD : ∀ (ds : List PyData) (vs : List V) (fp : List Addr), ImA K H vs ds fp → PyData.hasDictAll ds = false → DpAll K H vs ds
  | [], _, _, h, _ => by cases h; exact .nil
  | d :: ds, _, _, h, z => by
    cases h with
    | cons a b q => exact .cons (Im.dpD d _ _ a (hasDict_all z).1) (ImA.dpD ds _ _ b (hasDict_all z).2)
end
/-- each list, dict of it stands -/
theorem Im.mtb (d : PyData) (v : V) (fp : List Addr) (h : Im K H v d fp) : ∀ b ∈ fp, ∃ o, H b = some o ∧ Mtb o := by
  refine Im.rec (motive_1 := fun v d fp _ => ∀ b ∈ fp, ∃ o, H b = some o ∧ Mtb o) (motive_2 := fun vs ds fp _ => ∀ b ∈ fp, ∃ o, H b = some o ∧ Mtb o) ?_ ?_ ?_ ?_ ?_ ?_ ?_ ?_ ?_ ?_ h
  · exact fun b hb => absurd hb List.not_mem_nil
  · exact fun _ b hb => absurd hb List.not_mem_nil
  · exact fun _ b hb => absurd hb List.not_mem_nil
  · exact fun _ b hb => absurd hb List.not_mem_nil
  · rintro a xs ds fp fq e _ q ih b hb
    subst q
    rcases List.mem_cons.mp hb with rfl | hb
    · exact ⟨_, e, trivial⟩
    · exact ih b hb
  · exact fun e _ ih => ih
  · rintro a kvs ps ds fp fq e e1 e2 _ q ih b hb
    subst q
    rcases List.mem_cons.mp hb with rfl | hb
    · exact ⟨_, e, trivial⟩
    · exact ih b hb
  · rintro a kvs ps ds fp fq e e1 e2 _ q ih b hb
    subst q
    rcases List.mem_cons.mp hb with rfl | hb
    · exact ⟨_, e, trivial⟩
    · exact ih b hb
  · exact fun b hb => absurd hb List.not_mem_nil
  · rintro v vs d ds fp fq fr _ _ q ih1 ih2 b hb
    subst q
    rcases List.mem_append.mp hb with hb | hb
    · exact ih1 b hb
    · exact ih2 b hb
theorem Mtb.tbl {o : HO} (h : Mtb o) : ∀ ps, o ≠ .tbl ps := fun ps e => by subst e; exact h
theorem Mtb.tup {o : HO} (h : Mtb o) : ∀ ps, o ≠ .tup ps := fun ps e => by subst e; exact h
theorem ImA.len : ∀ {ds : List PyData} {vs : List V} {fp : List Addr}, ImA K H vs ds fp → vs.length = ds.length
  | [], _, _, h => by cases h; rfl
  | d :: ds, _, _, h => by
    cases h with
    | cons a b q => rw [List.length_cons, List.length_cons, ImA.len b]
theorem ImA.app : ∀ {ds es : List PyData} {vs ws : List V} {fp fq : List Addr}, ImA K H vs ds fp → ImA K H ws es fq → ImA K H (vs ++ ws) (ds ++ es) (fp ++ fq)
  | [], _, _, _, _, _, h, g => by cases h; exact g
  | d :: ds, _, _, _, _, _, h, g => by
    cases h with
    | cons a b q =>
      subst q
      exact .cons a (ImA.app b g) (List.append_assoc _ _ _)
theorem ImA.get : ∀ {ds : List PyData} {vs : List V} {fp : List Addr} {i : Nat} {d : PyData}, ImA K H vs ds fp → ds[i]? = some d → ∃ v fq, vs[i]? = some v ∧ Im K H v d fq ∧ ∀ b ∈ fq, b ∈ fp
  | [], _, _, _, _, h, e => by cases e
  | d :: ds, _, _, 0, _, h, e => by
    cases h with
    | cons a b q =>
      subst q
      obtain rfl : d = _ := Option.some.inj e
      exact ⟨_, _, rfl, a, fun b hb => List.mem_append_left _ hb⟩
  | d :: ds, _, _, i + 1, _, h, e => by
    cases h with
    | cons a b q =>
      subst q
      obtain ⟨v, fq, h1, h2, h3⟩ := ImA.get b e
      exact ⟨v, fq, h1, h2, fun b hb => List.mem_append_right _ (h3 b hb)⟩
end
/-! ### kinds of data -/
class Enc (α : Type) where
  en : α → PyData
abbrev enc {α : Type} [Enc α] (a : α) : PyData := Enc.en a
class Pu (α : Type) [Enc α] : Prop where
  pu : ∀ {K : PySem.W.Frag} {H : Hp} {v : V} {a : α} {fp : List Addr}, Im K H v (enc a) fp → fp = []
instance : Enc Nat := ⟨fun n => .int (n : Int)⟩
instance : Enc Int := ⟨fun n => .int n⟩
instance : Enc Bool := ⟨fun n => .bool n⟩
instance : Enc Unit := ⟨fun _ => .none⟩
instance : Enc Str := ⟨fun x => .str x⟩
instance {α : Type} [Enc α] : Enc (Option α) := ⟨fun x => match x with | none => .none | some a => enc a⟩
instance {α β : Type} [Enc α] [Enc β] : Enc (α × β) := ⟨fun x => .tuple [enc x.1, enc x.2]⟩
structure T3 (α β γ : Type) where
  a : α
  b : β
  c : γ
structure T4 (α β γ δ : Type) where
  a : α
  b : β
  c : γ
  d : δ
instance {α β γ : Type} [Enc α] [Enc β] [Enc γ] : Enc (T3 α β γ) := ⟨fun x => .tuple [enc x.a, enc x.b, enc x.c]⟩
instance {α β γ δ : Type} [Enc α] [Enc β] [Enc γ] [Enc δ] : Enc (T4 α β γ δ) := ⟨fun x => .tuple [enc x.a, enc x.b, enc x.c, enc x.d]⟩
/-- a tuple of equals in kind -/
instance {α : Type} [Enc α] : Enc (List α) := ⟨fun x => .tuple (x.map enc)⟩
/-- a list -/
structure Lst (α : Type) where
  l : List α
instance {α : Type} [Enc α] : Enc (Lst α) := ⟨fun x => .list (x.l.map enc)⟩
instance : Pu Nat := ⟨fun h => by cases h; rfl⟩
instance : Pu Int := ⟨fun h => by cases h; rfl⟩
instance : Pu Bool := ⟨fun h => by cases h; rfl⟩
instance : Pu Unit := ⟨fun h => by cases h; rfl⟩
instance : Pu Str := ⟨fun h => by cases h; rfl⟩
instance {α : Type} [Enc α] [Pu α] : Pu (Option α) := ⟨fun {K H v a fp} h => by
  cases a with
  | none => cases h; rfl
  | some a => exact Pu.pu (a := a) h⟩
theorem ima1 {K : PySem.W.Frag} {H : Hp} {vs : List V} {d : PyData} {fp : List Addr} (h : ImA K H vs [d] fp) : ∃ v, vs = [v] ∧ Im K H v d fp := by
  cases h with
  | cons a b q =>
    cases b
    subst q
    rw [List.append_nil]
    exact ⟨_, rfl, a⟩
theorem ima2 {K : PySem.W.Frag} {H : Hp} {vs : List V} {d e : PyData} {fp : List Addr} (h : ImA K H vs [d, e] fp) : ∃ v w f1 f2, vs = [v, w] ∧ Im K H v d f1 ∧ Im K H w e f2 ∧ fp = f1 ++ f2 := by
  cases h with
  | cons a b q =>
    obtain ⟨w, rfl, hw⟩ := ima1 b
    exact ⟨_, w, _, _, rfl, a, hw, q⟩
theorem ima3 {K : PySem.W.Frag} {H : Hp} {vs : List V} {d e f : PyData} {fp : List Addr} (h : ImA K H vs [d, e, f] fp) : ∃ v w u f1 f2 f3, vs = [v, w, u] ∧ Im K H v d f1 ∧ Im K H w e f2 ∧ Im K H u f f3 ∧ fp = f1 ++ (f2 ++ f3) := by
  cases h with
  | cons a b q =>
    obtain ⟨w, u, f2, f3, rfl, hw, hu, e⟩ := ima2 b
    exact ⟨_, w, u, _, _, _, rfl, a, hw, hu, by rw [q, e]⟩
theorem ima4 {K : PySem.W.Frag} {H : Hp} {vs : List V} {d e f g : PyData} {fp : List Addr} (h : ImA K H vs [d, e, f, g] fp) : ∃ v w u x f1 f2 f3 f4, vs = [v, w, u, x] ∧ Im K H v d f1 ∧ Im K H w e f2 ∧ Im K H u f f3 ∧ Im K H x g f4 ∧ fp = f1 ++ (f2 ++ (f3 ++ f4)) := by
  cases h with
  | cons a b q =>
    obtain ⟨w, u, x, f2, f3, f4, rfl, hw, hu, hx, e⟩ := ima3 b
    exact ⟨_, w, u, x, _, _, _, _, rfl, a, hw, hu, hx, by rw [q, e]⟩
instance {α β : Type} [Enc α] [Enc β] [Pu α] [Pu β] : Pu (α × β) := ⟨fun {K H v a fp} h => by
  cases h with
  | tup e b =>
    obtain ⟨v, w, f1, f2, rfl, h1, h2, rfl⟩ := ima2 b
    rw [Pu.pu h1, Pu.pu h2]; rfl⟩
instance {α β γ : Type} [Enc α] [Enc β] [Enc γ] [Pu α] [Pu β] [Pu γ] : Pu (T3 α β γ) := ⟨fun {K H v a fp} h => by
  cases h with
  | tup e b =>
    obtain ⟨v, w, u, f1, f2, f3, rfl, h1, h2, h3, rfl⟩ := ima3 b
    rw [Pu.pu h1, Pu.pu h2, Pu.pu h3]; rfl⟩
instance {α β γ δ : Type} [Enc α] [Enc β] [Enc γ] [Enc δ] [Pu α] [Pu β] [Pu γ] [Pu δ] : Pu (T4 α β γ δ) := ⟨fun {K H v a fp} h => by
  cases h with
  | tup e b =>
    obtain ⟨v, w, u, x, f1, f2, f3, f4, rfl, h1, h2, h3, h4, rfl⟩ := ima4 b
    rw [Pu.pu h1, Pu.pu h2, Pu.pu h3, Pu.pu h4]; rfl⟩
theorem ima_pu {α : Type} [Enc α] [Pu α] {K : PySem.W.Frag} {H : Hp} : ∀ {xs : List α} {vs : List V} {fp : List Addr}, ImA K H vs (xs.map enc) fp → fp = []
  | [], _, _, h => by cases h; rfl
  | x :: xs, _, _, h => by
    cases h with
    | cons a b q => rw [q, Pu.pu a, ima_pu b]; rfl
instance {α : Type} [Enc α] [Pu α] : Pu (List α) := ⟨fun {K H v a fp} h => by
  cases h with
  | tup e b => exact ima_pu b⟩
/-! ## heaps -/
structure Fr (K : PySem.W.Frag) (po : Option Addr) (H H' : Hp) : Prop where
  keep : ∀ b o, po ≠ some b → H b = some o → (∀ ps, o ≠ .tbl ps) → H' b = some o
  tup : ∀ b xs, TupR H b xs → TupR H' b xs
section
variable {K : PySem.W.Frag} {po : Option Addr} {H H1 H' : Hp} {T : List (Addr × Str)} {n n1 n' : Nat}
theorem Fr.refl : Fr K po H H := ⟨fun _ _ _ h _ => h, fun _ _ h => h⟩
theorem Fr.trans (x : Fr K po H H1) (y : Fr K po H1 H') : Fr K po H H' := ⟨fun b o p h t => y.keep b o p (x.keep b o p h t) t, fun b xs h => y.tup b xs (x.tup b xs h)⟩
theorem Fr.same (s : Same H H') : Fr K po H H' := ⟨fun b o _ h _ => s b o h, fun _ _ h => s _ _ h⟩
theorem Fr.ext (s : ExtN H H') : Fr K po H H' := ⟨fun b o _ h t => s b o h t, fun _ _ h => s _ _ h fun ps z => nomatch z⟩
theorem Fr.weak (x : Fr K none H H') : Fr K po H H' := ⟨fun b o _ h t => x.keep b o (by simp) h t, x.tup⟩
theorem Fr.keeps {a : Addr} {l : List V} (ha : H a = some (.lst l)) (k : Keeps a H H') : Fr K (some a) H H' := ⟨fun b o p h _ => k b o (fun e => p (by rw [e])) h, fun _ _ h => k _ _ (fun e => by unfold TupR at h; rw [e, ha] at h; cases h) h⟩
structure Af (K : PySem.W.Frag) (T : List (Addr × Str)) (po : Option Addr) (H : Hp) (n : Nat) (H' : Hp) (n' : Nat) : Prop where
  fr : Fr K po H H'
  tabs : Tabs T H → Tabs T H'
  pot : ∀ a, po = some a → Pot H a n → Pot H' a n'
theorem Af.refl : Af K T po H n H n := ⟨Fr.refl, id, fun _ _ h => h⟩
theorem Af.trans (x : Af K T po H n H1 n1) (y : Af K T po H1 n1 H' n') : Af K T po H n H' n' := ⟨x.fr.trans y.fr, fun t => y.tabs (x.tabs t), fun a e p => y.pot a e (x.pot a e p)⟩
theorem Af.same (s : Same H H') : Af K T po H n H' n := ⟨Fr.same s, fun t => t.ext s, fun a e p => p.same s⟩
theorem Af.new {p : Addr} {o : HO} (np : H p = none) : Af K T po H n (upd H p o) n := Af.same (same_new (Same.refl H) np)
def Fsh (H : Hp) (b : Addr) : Prop := ∀ o, H b = some o → ∃ ps, o = .tbl ps
def Fp (H : Hp) (po : Option Addr) (fr : Bool) (fp : List Addr) : Prop := (∀ b ∈ fp, po ≠ some b) ∧ (fr = true → fp.Nodup ∧ ∀ b ∈ fp, Fsh H b)
theorem Fp.nil {fr : Bool} : Fp H po fr [] := ⟨fun b h => absurd h List.not_mem_nil, fun _ => ⟨List.nodup_nil, fun b h => absurd h List.not_mem_nil⟩⟩
theorem Fsh.back {b : Addr} (f : Fr K po H H') (hb : po ≠ some b) (h : Fsh H' b) : Fsh H b := fun o e => by
  by_cases z : ∃ ps, o = .tbl ps
  · exact z
  · exact h o (f.keep b o hb e fun ps q => z ⟨ps, q⟩)
theorem Fp.back {fr : Bool} {fp : List Addr} (f : Fr K po H H') (h : Fp H' po fr fp) : Fp H po fr fp := ⟨h.1, fun e => ⟨(h.2 e).1, fun b hb => Fsh.back f (h.1 b hb) ((h.2 e).2 b hb)⟩⟩
theorem Fp.weak {fr : Bool} {fp : List Addr} (h : Fp H po fr fp) : Fp H po false fp := ⟨h.1, fun e => nomatch e⟩
theorem Im.af {v : V} {d : PyData} {fp : List Addr} (h : Im K H v d fp) (hp : ∀ b ∈ fp, po ≠ some b) (f : Fr K po H H') : Im K H' v d fp := Im.stab f.tup d v fp h fun b hb o e m => f.keep b _ (hp b hb) e m.tbl
theorem ImA.af {vs : List V} {ds : List PyData} {fp : List Addr} (h : ImA K H vs ds fp) (hp : ∀ b ∈ fp, po ≠ some b) (f : Fr K po H H') : ImA K H' vs ds fp := ImA.stab f.tup ds vs fp h fun b hb o e m => f.keep b _ (hp b hb) e m.tbl
theorem Im.same {v : V} {d : PyData} {fp : List Addr} (h : Im K H v d fp) (s : Same H H') : Im K H' v d fp := h.af (po := none) (fun b _ => by simp) (Fr.same s)
theorem ImA.same {vs : List V} {ds : List PyData} {fp : List Addr} (h : ImA K H vs ds fp) (s : Same H H') : ImA K H' vs ds fp := h.af (po := none) (fun b _ => by simp) (Fr.same s)
end
/-! ## what the slots hold -/
inductive Sl where
  | any
  | pot
  | bor (d : PyData)
  | own (d : PyData)
  | scr (ns : List Int)
  | lkd (d : PyData)
  | borA (v : V) (fp : List Addr) (d : PyData)
/-- a list that stands from the start on, whatever is done -/
def ScrOk (K : PySem.W.Frag) (Bs : Addr → HO → Prop) (a : Addr) (vs : List V) : Prop := (∃ o, Bs a o ∧ (o = .lst vs ∨ ∃ z, o = .frz z (.lst vs))) ∨
  ∃ (o : Obj) (its : Array Value) (n : Nat), K.lookup a = some o ∧ o.cls = .type "list" ∧ o.dict = none ∧ o.data = .seq its n ∧ its.size ≤ sizeLine ∧ Vals vs its.toList
/-- what a dict holds, flat values only -/
def DcOk (K : PySem.W.Frag) (H : Hp) (u : HO) (d : PyData) : Prop := (∃ kvs ps, u = .dK kvs ∧ d = .dict ((.none, .none) :: ps) ∧ ps.map Prod.fst = kvs.map (fun kv => kD kv.1) ∧ ImA K H (kvs.map Prod.snd) (ps.map Prod.snd) []) ∨
  ∃ kvs ps, u = .dT kvs ∧ d = .dict ps ∧ ps.map Prod.fst = kvs.map (fun kv => .tuple (kv.1.map kD)) ∧ ImA K H (kvs.map Prod.snd) (ps.map Prod.snd) []
theorem DcOk.af {K : PySem.W.Frag} {po : Option Addr} {H H' : Hp} {u : HO} {d : PyData} (h : DcOk K H u d) (f : Fr K po H H') : DcOk K H' u d := by
  rcases h with ⟨kvs, ps, h1, h2, h3, h4⟩ | ⟨kvs, ps, h1, h2, h3, h4⟩
  · exact .inl ⟨kvs, ps, h1, h2, h3, h4.af (po := po) (fun b hb => absurd hb List.not_mem_nil) f⟩
  · exact .inr ⟨kvs, ps, h1, h2, h3, h4.af (po := po) (fun b hb => absurd hb List.not_mem_nil) f⟩
def SlOk (K : PySem.W.Frag) (Bs : Addr → HO → Prop) (po : Option Addr) (H : Hp) (ov : Option (Option V)) (s : Sl) (fp : List Addr) : Prop := match s with
  | .any => True
  | .pot => ∃ a, po = some a ∧ ov = some (some (.ref a))
  | .bor d => ∃ v, ov = some (some v) ∧ Im K H v d fp ∧ ∀ b ∈ fp, po ≠ some b ∧ ∃ o, Bs b o
  | .own d => ∃ v, ov = some (some v) ∧ Im K H v d fp ∧ fp.Nodup ∧ ∀ b ∈ fp, po ≠ some b ∧ ∀ o, ¬ Bs b o
  | .scr ns => ∃ a, ov = some (some (.ref a)) ∧ ScrOk K Bs a (ns.map V.int)
  | .lkd d => ∃ a od u, ov = some (some (.ref a)) ∧ po ≠ some a ∧ H a = some (.frz od u) ∧ DcOk K H u d
  | .borA v fq d => ov = some (some v) ∧ Im K H v d fq ∧ ∀ b ∈ fq, po ≠ some b ∧ ∃ o, Bs b o
structure ST (K : PySem.W.Frag) (T : List (Addr × Str)) (Bs : Addr → HO → Prop) (po : Option Addr) (ρ : List Sl) (φ : Nat → List Addr) (σ : L2.St) (H : Hp) (n : Nat) : Prop where
  tabs : Tabs T H
  base : ∀ b o, Bs b o → H b = some o ∧ (∀ ps, o ≠ .tbl ps) ∧ po ≠ some b
  pot : ∀ a, po = some a → Pot H a n
  len : σ.length = ρ.length
  sl : ∀ i s, ρ[i]? = some s → SlOk K Bs po H σ[i]? s (φ i)
  dis : ∀ i j d e, i ≠ j → ρ[i]? = some (.own d) → ρ[j]? = some (.own e) → ∀ b ∈ φ i, b ∉ φ j
def STe (K : PySem.W.Frag) (T : List (Addr × Str)) (Bs : Addr → HO → Prop) (po : Option Addr) (ρ : List Sl) (σ : L2.St) (H : Hp) (n : Nat) : Prop := ∃ φ, ST K T Bs po ρ φ σ H n
section
variable {K : PySem.W.Frag} {T : List (Addr × Str)} {Bs : Addr → HO → Prop} {po : Option Addr} {ρ : List Sl} {φ : Nat → List Addr} {σ : L2.St} {H H' : Hp} {n n' : Nat}
theorem SlOk.af {ov : Option (Option V)} {s : Sl} {fp : List Addr} (h : SlOk K Bs po H ov s fp) (f : Fr K po H H') : SlOk K Bs po H' ov s fp := by
  cases s with
  | any => exact h
  | pot => exact h
  | scr ns => exact h
  | lkd d => obtain ⟨a, od, u, h1, h2, h3, h4⟩ := h; exact ⟨a, od, u, h1, h2, f.keep a _ h2 h3 (fun ps z => nomatch z), h4.af f⟩
  | borA v fq d => exact ⟨h.1, h.2.1.af (fun b hb => (h.2.2 b hb).1) f, h.2.2⟩
  | bor d => obtain ⟨v, h1, h2, h3⟩ := h; exact ⟨v, h1, h2.af (fun b hb => (h3 b hb).1) f, h3⟩
  | own d => obtain ⟨v, h1, h2, h3, h4⟩ := h; exact ⟨v, h1, h2.af (fun b hb => (h4 b hb).1) f, h3, h4⟩
theorem ST.af (h : ST K T Bs po ρ φ σ H n) (a : Af K T po H n H' n') : ST K T Bs po ρ φ σ H' n' where
  tabs := a.tabs h.tabs
  base := fun b o z => by
    obtain ⟨h1, h2, h3⟩ := h.base b o z
    exact ⟨a.fr.keep b o h3 h1 h2, h2, h3⟩
  pot := fun p e => a.pot p e (h.pot p e)
  len := h.len
  sl := fun i s e => (h.sl i s e).af a.fr
  dis := h.dis
theorem pot_lst {a : Addr} (h : Pot H a n) : ∃ l, H a = some (.lst l) := let ⟨_, _, _, e, _⟩ := h; ⟨_, e⟩
/-- something new is not the pot, nor in what slots hold -/
theorem ST.fresh_pot (h : ST K T Bs po ρ φ σ H n) {b : Addr} (f : Fsh H b) : po ≠ some b := fun e => by
  obtain ⟨l, hl⟩ := pot_lst (h.pot b e)
  obtain ⟨ps, z⟩ := f _ hl
  cases z
theorem ST.fresh_bs (h : ST K T Bs po ρ φ σ H n) {b : Addr} (f : Fsh H b) : ∀ o, ¬ Bs b o := fun o z => by
  obtain ⟨h1, h2, h3⟩ := h.base b o z
  obtain ⟨ps, q⟩ := f _ h1
  exact h2 ps q
theorem ST.fresh_own (h : ST K T Bs po ρ φ σ H n) {b : Addr} (f : Fsh H b) {i : Nat} {d : PyData} (e : ρ[i]? = some (.own d)) : b ∉ φ i := fun z => by
  obtain ⟨v, h1, h2, h3, h4⟩ := h.sl i _ e
  obtain ⟨l, hl, hm⟩ := Im.mtb _ _ _ h2 b z
  obtain ⟨ps, q⟩ := f _ hl
  exact hm.tbl ps q
/-- a slot is set to something new -/
theorem ST.set (h : ST K T Bs po ρ φ σ H n) (a : Af K T po H n H' n') {i : Nat} (hi : i < ρ.length) {v : V} {d : PyData} {fp : List Addr} (hv : Im K H' v d fp) (hf : Fp H po true fp) :
    ST K T Bs po (ρ.set i (.own d)) (fun j => if j = i then fp else φ j) (σ.set i (some v)) H' n' := by
  have h' := h.af a
  obtain ⟨hp, hn⟩ := hf
  obtain ⟨hnd, hfs⟩ := hn rfl
  refine ⟨h'.tabs, h'.base, h'.pot, by rw [List.length_set, List.length_set, h.len], fun j s e => ?_, fun j k d1 e1 hjk ej ek => ?_⟩
  · rw [List.getElem?_set] at e ⊢
    by_cases hij : i = j
    · subst hij
      rw [if_pos rfl, if_pos hi] at e
      obtain rfl : Sl.own d = s := Option.some.inj e
      rw [if_pos rfl, if_pos (by rw [h.len]; exact hi)]
      show SlOk K Bs po H' _ _ (if i = i then fp else φ i)
      rw [if_pos rfl]
      exact ⟨v, rfl, hv, hnd, fun b hb => ⟨hp b hb, h.fresh_bs (hfs b hb)⟩⟩
    · rw [if_neg hij] at e ⊢
      show SlOk K Bs po H' _ _ (if j = i then fp else φ j)
      rw [if_neg (Ne.symm hij)]
      exact h'.sl j s e
  · show ∀ b ∈ (if j = i then fp else φ j), b ∉ (if k = i then fp else φ k)
    rw [List.getElem?_set] at ej ek
    by_cases hji : i = j
    · subst hji
      rw [if_pos rfl]
      rw [if_neg hjk] at ek
      rw [if_neg (Ne.symm hjk)]
      exact fun b hb => h.fresh_own (hfs b hb) ek
    · rw [if_neg hji] at ej
      rw [if_neg (Ne.symm hji)]
      by_cases hki : i = k
      · subst hki
        rw [if_pos rfl]
        exact fun b hb z => h.fresh_own (hfs b z) ej hb
      · rw [if_neg hki] at ek
        rw [if_neg (Ne.symm hki)]
        exact h.dis j k d1 e1 hjk ej ek
/-- less is known -/
inductive SlLe : Sl → Sl → Prop
  | any (s : Sl) : SlLe .any s
  | eq (s : Sl) : SlLe s s
def RhoLe : List Sl → List Sl → Prop
  | [], [] => True
  | s :: ss, t :: ts => SlLe s t ∧ RhoLe ss ts
  | _, _ => False
theorem RhoLe.refl : ∀ ρ : List Sl, RhoLe ρ ρ
  | [] => trivial
  | s :: ss => ⟨.eq s, RhoLe.refl ss⟩
theorem RhoLe.len : ∀ {ρ1 ρ2 : List Sl}, RhoLe ρ1 ρ2 → ρ1.length = ρ2.length
  | [], [], _ => rfl
  | s :: ss, t :: ts, h => by rw [List.length_cons, List.length_cons, RhoLe.len h.2]
theorem RhoLe.get : ∀ {ρ1 ρ2 : List Sl}, RhoLe ρ1 ρ2 → ∀ {i : Nat} {s : Sl}, ρ1[i]? = some s → ∃ t, ρ2[i]? = some t ∧ SlLe s t
  | [], [], _, _, _, e => by cases e
  | s :: ss, t :: ts, h, 0, _, e => by
    obtain rfl : s = _ := Option.some.inj e
    exact ⟨t, rfl, h.1⟩
  | s :: ss, t :: ts, h, i + 1, _, e => RhoLe.get h.2 (i := i) e
theorem ST.le {ρ1 : List Sl} (h : ST K T Bs po ρ φ σ H n) (l : RhoLe ρ1 ρ) : ST K T Bs po ρ1 φ σ H n where
  tabs := h.tabs
  base := h.base
  pot := h.pot
  len := h.len.trans l.len.symm
  sl := fun i s e => by
    obtain ⟨t, h1, h2⟩ := l.get e
    cases h2 with
    | any => trivial
    | eq => exact h.sl i _ h1
  dis := fun i j d e hij ei ej => by
    obtain ⟨t, h1, h2⟩ := l.get ei
    obtain ⟨u, h3, h4⟩ := l.get ej
    cases h2
    cases h4
    exact h.dis i j d e hij h1 h3
/-- an own list is only read from now on -/
theorem ST.freeze (h : ST K T Bs po ρ φ σ H n) {i : Nat} {d : PyData} (hi : ρ[i]? = some (.own d)) :
    ST K T (fun b o => Bs b o ∨ (b ∈ φ i ∧ H b = some o)) po (ρ.set i (.bor d)) φ σ H n := by
  obtain ⟨v, h1, h2, h3, h4⟩ := h.sl i _ hi
  have hil := (List.getElem?_eq_some_iff.mp hi).1
  refine ⟨h.tabs, fun b o z => ?_, h.pot, by rw [List.length_set]; exact h.len, fun j s e => ?_, fun j k d1 e1 hjk ej ek => ?_⟩
  · rcases z with z | ⟨z, e⟩
    · exact h.base b o z
    · obtain ⟨l, hl, hm⟩ := Im.mtb _ _ _ h2 b z
      rw [e] at hl
      cases hl
      exact ⟨e, hm.tbl, (h4 b z).1⟩
  · rw [List.getElem?_set] at e
    by_cases hij : i = j
    · subst hij
      rw [if_pos rfl, if_pos hil] at e
      obtain rfl : Sl.bor d = s := Option.some.inj e
      refine ⟨v, h1, h2, fun b hb => ⟨(h4 b hb).1, ?_⟩⟩
      obtain ⟨l, hl, _⟩ := Im.mtb _ _ _ h2 b hb
      exact ⟨_, .inr ⟨hb, hl⟩⟩
    · rw [if_neg hij] at e
      have z := h.sl j s e
      cases s with
      | any => trivial
      | pot => exact z
      | scr ns => obtain ⟨a, z1, z2⟩ := z; exact ⟨a, z1, z2.elim (fun ⟨o, q1, q2⟩ => .inl ⟨o, .inl q1, q2⟩) .inr⟩
      | lkd d' => exact z
      | borA v' fq d' => exact ⟨z.1, z.2.1, fun b hb => ⟨(z.2.2 b hb).1, let ⟨o, q⟩ := (z.2.2 b hb).2; ⟨o, .inl q⟩⟩⟩
      | bor d' => obtain ⟨v', z1, z2, z3⟩ := z; exact ⟨v', z1, z2, fun b hb => ⟨(z3 b hb).1, let ⟨o, q⟩ := (z3 b hb).2; ⟨o, .inl q⟩⟩⟩
      | own d' =>
        obtain ⟨v', z1, z2, z3, z4⟩ := z
        refine ⟨v', z1, z2, z3, fun b hb => ⟨(z4 b hb).1, fun o q => ?_⟩⟩
        rcases q with q | ⟨q, _⟩
        · exact (z4 b hb).2 o q
        · exact h.dis i j d d' hij hi e b q hb
  · rw [List.getElem?_set] at ej ek
    by_cases hij : i = j
    · rw [if_pos hij] at ej
      split at ej
      · cases ej
      · cases ej
    · rw [if_neg hij] at ej
      by_cases hik : i = k
      · rw [if_pos hik] at ek
        split at ek
        · cases ek
        · cases ek
      · rw [if_neg hik] at ek
        exact h.dis j k d1 e1 hjk ej ek
end
end Bf
namespace Bf
open PySem PySem.Spec PyProof.Rows L2 LamX NdefX
/-! ## what must hold for an answer, the count of draws with it -/
abbrev M (α : Type) := Nat → (α → Nat → Prop) → Prop
def retW {α : Type} (a : α) : M α := fun n P => P a n
def bindW {α β : Type} (m : M α) (k : α → M β) : M β := fun n P => m n fun a n' => k a n' P
def reqW {α : Type} (c : Prop) (m : M α) : M α := fun n P => c ∧ m n P
def pureW {α : Type} (m : M α) : M α := fun n P => m 0 fun a _ => P a n
def b2W {α β γ : Type} (ma : M α) (mb : M β) (f : α → β → M γ) : M γ := fun n P => ma n fun a n1 => mb n1 fun b n2 => f a b n2 P
section
variable {K : PySem.W.Frag} {T : List (Addr × Str)} {ρ : List Sl}
variable {α β γ : Type} [Enc α] [Enc β] [Enc γ]
def RE (K : PySem.W.Frag) (T : List (Addr × Str)) (t : TE) (ρ : List Sl) (fr : Bool) {α : Type} [Enc α] (m : M α) : Prop := ∀ (Bs : Addr → HO → Prop) (po : Option Addr) (φ : Nat → List Addr) (σ : L2.St) (H : Hp) (n : Nat), ST K T Bs po ρ φ σ H n → ∀ P : α → Nat → Prop, m n P →
  ∀ Q : VK, (∀ (a : α) (n' : Nat) (v : V) (H' : Hp) (fp : List Addr), P a n' → Af K T po H n H' n' → Im K H' v (enc a) fp → Fp H po fr fp → Q v H') → t σ H Q
def RT (K : PySem.W.Frag) (T : List (Addr × Str)) (t : TT) (ρ : List Sl) (m : M Bool) : Prop := ∀ (Bs : Addr → HO → Prop) (po : Option Addr) (φ : Nat → List Addr) (σ : L2.St) (H : Hp) (n : Nat), ST K T Bs po ρ φ σ H n → ∀ P : Bool → Nat → Prop, m n P →
  ∀ Q : Bool → Hp → Prop, (∀ (a : Bool) (n' : Nat) (H' : Hp), P a n' → Af K T po H n H' n' → Q a H') → t σ H Q
theorem RE.weak {t : TE} {fr : Bool} {m : M α} (h : RE K T t ρ fr m) : RE K T t ρ false m := fun Bs po φ σ H n st P p Q q => h Bs po φ σ H n st P p Q fun a n' v H' fp pa af im f => q a n' v H' fp pa af im f.weak
theorem RE.pu [Pu α] {t : TE} {fr : Bool} {m : M α} (h : RE K T t ρ fr m) : RE K T t ρ true m := fun Bs po φ σ H n st P p Q q => h Bs po φ σ H n st P p Q fun a n' v H' fp pa af im f => q a n' v H' fp pa af im (by rw [Pu.pu im]; exact Fp.nil)
/-! ### names, written values -/
theorem re_own {i : Nat} {a : α} (hi : ρ[i]? = some (.own (enc a))) : RE K T (tVar i) ρ false (retW a) := fun Bs po φ σ H n st P p Q q => by
  obtain ⟨v, h1, h2, h3, h4⟩ := st.sl i _ hi
  exact ⟨v, h1, q a n v H _ p Af.refl h2 ⟨fun b hb => (h4 b hb).1, fun e => nomatch e⟩⟩
theorem re_bor {i : Nat} {a : α} (hi : ρ[i]? = some (.bor (enc a))) : RE K T (tVar i) ρ false (retW a) := fun Bs po φ σ H n st P p Q q => by
  obtain ⟨v, h1, h2, h3⟩ := st.sl i _ hi
  exact ⟨v, h1, q a n v H _ p Af.refl h2 ⟨fun b hb => (h3 b hb).1, fun e => nomatch e⟩⟩
theorem re_v [Pu α] {i : Nat} {a : α} (hi : ρ[i]? = some (.own (enc a))) : RE K T (tVar i) ρ true (retW a) := (re_own hi).pu
theorem re_nat (k : Nat) : RE K T (tC (.int (k : Int))) ρ true (retW k) := fun Bs po φ σ H n st P p Q q => q k n _ H [] p Af.refl (.int _) Fp.nil
theorem re_int (k : Int) : RE K T (tC (.int k)) ρ true (retW k) := fun Bs po φ σ H n st P p Q q => q k n _ H [] p Af.refl (.int _) Fp.nil
theorem re_bool (k : Bool) : RE K T (tC (.bl k)) ρ true (retW k) := fun Bs po φ σ H n st P p Q q => q k n _ H [] p Af.refl (.bl _) Fp.nil
theorem re_none : RE K T (tC .non) ρ true (retW (none : Option α)) := fun Bs po φ σ H n st P p Q q => q none n _ H [] p Af.refl .non Fp.nil
theorem re_unit : RE K T (tC .non) ρ true (retW ()) := fun Bs po φ σ H n st P p Q q => q () n _ H [] p Af.refl .non Fp.nil
theorem re_str (x : Str) : RE K T (tC (.str x)) ρ true (retW x) := fun Bs po φ σ H n st P p Q q => q x n _ H [] p Af.refl (.str _) Fp.nil
/-- the same value as another kind of data -/
def mapW (f : α → β) (m : M α) : M β := bindW m fun a => retW (f a)
theorem re_as {t : TE} {fr : Bool} {m : M α} (f : α → β) (hf : ∀ a, enc (f a) = enc a) (h : RE K T t ρ fr m) : RE K T t ρ fr (mapW f m) := fun Bs po φ σ H n st P p Q q => h Bs po φ σ H n st _ p Q fun a n' v H' fp pa af im f' => q (f a) n' v H' fp pa af (by rw [hf]; exact im) f'
theorem re_some {t : TE} {fr : Bool} {m : M α} (h : RE K T t ρ fr m) : RE K T t ρ fr (mapW some m) := re_as some (fun _ => rfl) h
theorem re_ofN {t : TE} {fr : Bool} {m : M Nat} (h : RE K T t ρ fr m) : RE K T t ρ fr (mapW (fun n : Nat => (n : Int)) m) := re_as (fun n : Nat => (n : Int)) (fun _ => rfl) h
/-- a number that is not below nought -/
theorem re_toN {t : TE} {fr : Bool} {m : M Int} (h : RE K T t ρ fr m) : RE K T t ρ fr (bindW m fun z => reqW (0 ≤ z) (retW z.toNat)) := fun Bs po φ σ H n st P p Q q => h Bs po φ σ H n st _ p Q fun a n' v H' fp pa af im f' =>
  q a.toNat n' v H' fp pa.2 af (by show Im K H' v (.int ((a.toNat : Nat) : Int)) fp; rw [Int.toNat_of_nonneg pa.1]; exact im) f'
/-- of what may be None, where it isn't -/
theorem re_get {t : TE} {fr : Bool} {m : M (Option α)} (h : RE K T t ρ fr m) : RE K T t ρ fr (fun n P => m n fun o n' => ∃ a, o = some a ∧ P a n') := fun Bs po φ σ H n st P p Q q => h Bs po φ σ H n st _ p Q fun o n' v H' fp pa af im f' => by
  obtain ⟨a, rfl, pa⟩ := pa
  exact q a n' v H' fp pa af im f'
/-! ### two parts and what is made of them -/
def OpW (K : PySem.W.Frag) {α β γ : Type} [Enc α] [Enc β] [Enc γ] (r : R2) (f : α → β → M γ) : Prop := ∀ (a : α) (b : β) (H : Hp) (v w : V) (fp fq : List Addr), Im K H v (enc a) fp → Im K H w (enc b) fq → ∀ n (P : γ → Nat → Prop), f a b n P →
  ∀ Q : VK, (∀ (c : γ) (H' : Hp) (v' : V) (fr : List Addr), P c n → Same H H' → Im K H' v' (enc c) fr → (fr.Nodup ∧ ∀ x ∈ fr, H x = none) → Q v' H') → r v w H Q
theorem fp_new {H : Hp} {po : Option Addr} {fp : List Addr} {T : List (Addr × Str)} {Bs : Addr → HO → Prop} {φ : Nat → List Addr} {σ : L2.St} {n : Nat} (st : ST K T Bs po ρ φ σ H n) (h : fp.Nodup ∧ ∀ x ∈ fp, H x = none) : Fp H po true fp :=
  ⟨fun b hb => st.fresh_pot fun o e => (by rw [h.2 b hb] at e; cases e), fun _ => ⟨h.1, fun b hb o e => (by rw [h.2 b hb] at e; cases e)⟩⟩
theorem re_op {ta tb : TE} {ma : M α} {mb : M β} {f : α → β → M γ} {r : R2} {f1 f2 : Bool} (hr : OpW K r f) (ha : RE K T ta ρ f1 ma) (hb : RE K T tb ρ f2 mb) : RE K T (tOp r ta tb) ρ true (b2W ma mb f) := fun Bs po φ σ H n st P p Q q =>
  ha Bs po φ σ H n st _ p _ fun a n1 v H1 fp pa a1 i1 g1 => hb Bs po φ σ H1 n1 (st.af a1) _ pa _ fun b n2 w H2 fq pb a2 i2 g2 =>
    hr a b H2 v w fp fq (i1.af g1.1 a2.fr) i2 n2 _ pb Q fun c H3 v' fr pc s3 i3 g3 => by
      have a12 := a1.trans a2
      exact q c n2 v' H3 fr pc (a12.trans (Af.same s3)) i3 (Fp.back a12.fr (fp_new (st.af a12) g3))
theorem opw_pure {α β γ : Type} [Enc α] [Enc β] [Enc γ] {r : R2} {f : α → β → M γ} (g : ∀ (a : α) (b : β) (H : Hp) (v w : V) (fp fq : List Addr), Im K H v (enc a) fp → Im K H w (enc b) fq → ∀ n (P : γ → Nat → Prop), f a b n P → ∃ c v', P c n ∧ Im K H v' (enc c) [] ∧ ∀ Q : VK, Q v' H → r v w H Q) : OpW K r f :=
  fun a b H v w fp fq i1 i2 n P p Q q => by
    obtain ⟨c, v', h1, h2, h3⟩ := g a b H v w fp fq i1 i2 n P p
    exact h3 Q (q c H v' [] h1 (Same.refl H) h2 ⟨List.nodup_nil, fun x h => absurd h List.not_mem_nil⟩)
/-! numbers from nought on -/
def rNN (g : Nat → Nat → Nat) (C : Nat → Nat → Prop) : R2 := fun x y H Q => ∃ n m : Nat, x = .int (n : Int) ∧ y = .int (m : Int) ∧ C n m ∧ Q (.int ((g n m : Nat) : Int)) H
theorem opw_n {r : R2} {g : Nat → Nat → Nat} {C : Nat → Nat → Prop} (h : ∀ (a b : Nat) H Q, C a b → Q (.int ((g a b : Nat) : Int)) H → r (.int (a : Int)) (.int (b : Int)) H Q) : OpW K r (fun a b : Nat => reqW (C a b) (retW (g a b))) :=
  opw_pure fun a b H v w fp fq i1 i2 n P p => by
    cases i1
    cases i2
    exact ⟨g a b, _, p.2, .int _, fun Q q => h a b H Q p.1 q⟩
theorem opw_n0 {r : R2} {g : Nat → Nat → Nat} (h : ∀ (a b : Nat) H Q, Q (.int ((g a b : Nat) : Int)) H → r (.int (a : Int)) (.int (b : Int)) H Q) : OpW K r (fun a b : Nat => retW (g a b)) :=
  opw_pure fun a b H v w fp fq i1 i2 n P p => by
    cases i1
    cases i2
    exact ⟨g a b, _, p, .int _, fun Q q => h a b H Q q⟩
theorem opw_z {r : R2} {g : Int → Int → Int} {C : Int → Int → Prop} (h : ∀ (a b : Int) H Q, C a b → Q (.int (g a b)) H → r (.int a) (.int b) H Q) : OpW K r (fun a b : Int => reqW (C a b) (retW (g a b))) :=
  opw_pure fun a b H v w fp fq i1 i2 n P p => by
    cases i1
    cases i2
    exact ⟨g a b, _, p.2, .int _, fun Q q => h a b H Q p.1 q⟩
theorem opw_z0 {r : R2} {g : Int → Int → Int} (h : ∀ (a b : Int) H Q, Q (.int (g a b)) H → r (.int a) (.int b) H Q) : OpW K r (fun a b : Int => retW (g a b)) :=
  opw_pure fun a b H v w fp fq i1 i2 n P p => by
    cases i1
    cases i2
    exact ⟨g a b, _, p, .int _, fun Q q => h a b H Q q⟩
theorem opw_zb {r : R2} {g : Int → Int → Bool} (h : ∀ (a b : Int) H Q, Q (.bl (g a b)) H → r (.int a) (.int b) H Q) : OpW K r (fun a b : Int => retW (g a b)) :=
  opw_pure fun a b H v w fp fq i1 i2 n P p => by
    cases i1
    cases i2
    exact ⟨g a b, _, p, .bl _, fun Q q => h a b H Q q⟩
theorem opw_nb {r : R2} {g : Nat → Nat → Bool} (h : ∀ (a b : Nat) H Q, Q (.bl (g a b)) H → r (.int (a : Int)) (.int (b : Int)) H Q) : OpW K r (fun a b : Nat => retW (g a b)) :=
  opw_pure fun a b H v w fp fq i1 i2 n P p => by
    cases i1
    cases i2
    exact ⟨g a b, _, p, .bl _, fun Q q => h a b H Q q⟩
theorem ow_addN : OpW K (fun x y H Q => ∃ n m : Nat, x = .int (n : Int) ∧ y = .int (m : Int) ∧ Q (.int ((n + m : Nat) : Int)) H) (fun a b : Nat => retW (a + b)) := opw_n0 fun a b H Q q => ⟨a, b, rfl, rfl, q⟩
theorem ow_subN : OpW K (fun x y H Q => ∃ n m : Nat, x = .int (n : Int) ∧ y = .int (m : Int) ∧ m ≤ n ∧ Q (.int ((n - m : Nat) : Int)) H) (fun a b : Nat => reqW (b ≤ a) (retW (a - b))) := opw_n fun a b H Q c q => ⟨a, b, rfl, rfl, c, q⟩
theorem ow_mulN : OpW K (fun x y H Q => ∃ n m : Nat, x = .int (n : Int) ∧ y = .int (m : Int) ∧ n < 2 ^ 63 ∧ Q (.int ((n * m : Nat) : Int)) H) (fun a b : Nat => reqW (a < 2 ^ 63) (retW (a * b))) := opw_n (C := fun a _ => a < 2 ^ 63) fun a b H Q c q => ⟨a, b, rfl, rfl, c, q⟩
theorem ow_modN : OpW K (fun x y H Q => ∃ n m : Nat, x = .int (n : Int) ∧ y = .int (m : Int) ∧ 0 < m ∧ Q (.int ((n % m : Nat) : Int)) H) (fun a b : Nat => reqW (0 < b) (retW (a % b))) := opw_n (C := fun _ b => 0 < b) fun a b H Q c q => ⟨a, b, rfl, rfl, c, q⟩
theorem ow_divN : OpW K (fun x y H Q => ∃ n m : Nat, x = .int (n : Int) ∧ y = .int (m : Int) ∧ 0 < m ∧ m < 1073741824 ∧ Q (.int ((n / m : Nat) : Int)) H) (fun a b : Nat => reqW (0 < b ∧ b < 1073741824) (retW (a / b))) := opw_n (C := fun _ b => 0 < b ∧ b < 1073741824) fun a b H Q c q => ⟨a, b, rfl, rfl, c.1, c.2, q⟩
theorem ow_xorN : OpW K (fun x y H Q => ∃ n m : Nat, x = .int (n : Int) ∧ y = .int (m : Int) ∧ Q (.int ((n ^^^ m : Nat) : Int)) H) (fun a b : Nat => retW (a ^^^ b)) := opw_n0 fun a b H Q q => ⟨a, b, rfl, rfl, q⟩
theorem ow_orN : OpW K (fun x y H Q => ∃ n m : Nat, x = .int (n : Int) ∧ y = .int (m : Int) ∧ Q (.int ((n ||| m : Nat) : Int)) H) (fun a b : Nat => retW (a ||| b)) := opw_n0 fun a b H Q q => ⟨a, b, rfl, rfl, q⟩
theorem ow_shrN : OpW K (fun x y H Q => ∃ n m : Nat, x = .int (n : Int) ∧ y = .int (m : Int) ∧ Q (.int ((n / 2 ^ m : Nat) : Int)) H) (fun a b : Nat => retW (a / 2 ^ b)) := opw_n0 fun a b H Q q => ⟨a, b, rfl, rfl, q⟩
theorem ow_bit : OpW K (fun x y H Q => ∃ k : Nat, x = .int 1 ∧ y = .int (k : Int) ∧ k ≤ 134217727 ∧ Q (.int ((2 ^ k : Nat) : Int)) H) (fun a b : Nat => reqW (a = 1 ∧ b ≤ 134217727) (retW (2 ^ b))) :=
  opw_n (C := fun a b => a = 1 ∧ b ≤ 134217727) fun a b H Q c q => ⟨b, by rw [c.1]; rfl, rfl, c.2, q⟩
theorem ow_add : OpW K (rI0 fun i j => .int (i + j)) (fun a b : Int => retW (a + b)) := opw_z0 fun a b H Q q => ⟨a, b, rfl, rfl, q⟩
theorem ow_sub : OpW K (rI0 fun i j => .int (i - j)) (fun a b : Int => retW (a - b)) := opw_z0 fun a b H Q q => ⟨a, b, rfl, rfl, q⟩
theorem ow_mul : OpW K (rI CMul fun i j => .int (i * j)) (fun a b : Int => reqW (CMul a b) (retW (a * b))) := opw_z fun a b H Q c q => ⟨a, b, rfl, rfl, c, q⟩
theorem ow_mod : OpW K (rI (fun _ j => 0 < j) fun i j => .int (i % j)) (fun a b : Int => reqW (0 < b) (retW (a % b))) := opw_z (C := fun _ b => 0 < b) fun a b H Q c q => ⟨a, b, rfl, rfl, c, q⟩
theorem ow_fdiv : OpW K (rI CDiv fun i j => .int (i / j)) (fun a b : Int => reqW (CDiv a b) (retW (a / b))) := opw_z fun a b H Q c q => ⟨a, b, rfl, rfl, c, q⟩
/-- numbers compared -/
theorem ow_cmpN {g : Int → Int → Bool} {p : Nat → Nat → Bool} (hp : ∀ a b : Nat, g (a : Int) (b : Int) = p a b) : OpW K (rI0 fun i j => .bl (g i j)) (fun a b : Nat => retW (p a b)) := opw_nb fun a b H Q q => ⟨a, b, rfl, rfl, by show Q (.bl (g (a : Int) (b : Int))) H; rw [hp]; exact q⟩
theorem ow_ltN : OpW K (rI0 fun i j => .bl (decide (i < j))) (fun a b : Nat => retW (decide (a < b))) := ow_cmpN fun a b => by simp
theorem ow_leN : OpW K (rI0 fun i j => .bl (decide (i ≤ j))) (fun a b : Nat => retW (decide (a ≤ b))) := ow_cmpN fun a b => by simp
theorem ow_gtN : OpW K (rI0 fun i j => .bl (decide (j < i))) (fun a b : Nat => retW (decide (b < a))) := ow_cmpN fun a b => by simp
theorem ow_geN : OpW K (rI0 fun i j => .bl (decide (j ≤ i))) (fun a b : Nat => retW (decide (b ≤ a))) := ow_cmpN fun a b => by simp
theorem ow_lt : OpW K (rI0 fun i j => .bl (decide (i < j))) (fun a b : Int => retW (decide (a < b))) := opw_zb fun a b H Q q => ⟨a, b, rfl, rfl, q⟩
theorem ow_le : OpW K (rI0 fun i j => .bl (decide (i ≤ j))) (fun a b : Int => retW (decide (a ≤ b))) := opw_zb fun a b H Q q => ⟨a, b, rfl, rfl, q⟩
theorem ow_gt : OpW K (rI0 fun i j => .bl (decide (j < i))) (fun a b : Int => retW (decide (b < a))) := opw_zb fun a b H Q q => ⟨a, b, rfl, rfl, q⟩
theorem ow_ge : OpW K (rI0 fun i j => .bl (decide (j ≤ i))) (fun a b : Int => retW (decide (b ≤ a))) := opw_zb fun a b H Q q => ⟨a, b, rfl, rfl, q⟩
theorem ow_eqN : OpW K rEq (fun a b : Nat => retW (decide (a = b))) := opw_nb fun a b H Q q => ⟨rfl, by
  have e : decide (V.int (a : Int) = V.int (b : Int)) = decide (a = b) := by simp; omega
  rw [e]; exact q⟩
theorem ow_neN : OpW K rNe (fun a b : Nat => retW (!decide (a = b))) := opw_nb fun a b H Q q => ⟨rfl, by
  have e : decide (V.int (a : Int) = V.int (b : Int)) = decide (a = b) := by simp; omega
  rw [e]; exact q⟩
theorem ow_eq : OpW K rEq (fun a b : Int => retW (decide (a = b))) := opw_zb fun a b H Q q => ⟨rfl, by
  have e : decide (V.int a = V.int b) = decide (a = b) := by simp
  rw [e]; exact q⟩
theorem ow_ne : OpW K rNe (fun a b : Int => retW (!decide (a = b))) := opw_zb fun a b H Q q => ⟨rfl, by
  have e : decide (V.int a = V.int b) = decide (a = b) := by simp
  rw [e]; exact q⟩
theorem ow_eqB : OpW K rEq (fun a b : Bool => retW (decide (a = b))) := opw_pure fun a b H v w fp fq i1 i2 n P p => by
  cases i1
  cases i2
  exact ⟨_, _, p, .bl _, fun Q q => ⟨rfl, by
    have e : decide (V.bl a = V.bl b) = decide (a = b) := by simp
    rw [e]; exact q⟩⟩
theorem ow_neB : OpW K rNe (fun a b : Bool => retW (!decide (a = b))) := opw_pure fun a b H v w fp fq i1 i2 n P p => by
  cases i1
  cases i2
  exact ⟨_, _, p, .bl _, fun Q q => ⟨rfl, by
    have e : decide (V.bl a = V.bl b) = decide (a = b) := by simp
    rw [e]; exact q⟩⟩
theorem ow_eqS : OpW K rEq (fun a b : Str => retW (decide (a = b))) := opw_pure fun a b H v w fp fq i1 i2 n P p => by
  cases i1
  cases i2
  exact ⟨_, _, p, .bl _, fun Q q => ⟨rfl, by
    have e : decide (V.str a = V.str b) = decide (a = b) := by simp
    rw [e]; exact q⟩⟩
theorem ow_neS : OpW K rNe (fun a b : Str => retW (!decide (a = b))) := opw_pure fun a b H v w fp fq i1 i2 n P p => by
  cases i1
  cases i2
  exact ⟨_, _, p, .bl _, fun Q q => ⟨rfl, by
    have e : decide (V.str a = V.str b) = decide (a = b) := by simp
    rw [e]; exact q⟩⟩
/-- any data compared -/
def shapeOk (d : PyData) : Prop := SeqAt.shaped d = true ∧ d.hasDict = false
theorem ow_eqD : OpW K (rEqD K) (fun (a : α) (b : β) => reqW (shapeOk (enc a) ∧ shapeOk (enc b)) (retW (PyData.eqv (enc a) (enc b)))) := opw_pure fun a b H v w fp fq i1 i2 n P p =>
  ⟨_, _, p.2, .bl _, fun Q q => ⟨_, _, i1.dpD _ _ _ p.1.1.2, i2.dpD _ _ _ p.1.2.2, p.1.1.1, p.1.2.1, q⟩⟩
theorem ow_neD : OpW K (rNeD K) (fun (a : α) (b : β) => reqW (shapeOk (enc a) ∧ shapeOk (enc b)) (retW (!PyData.eqv (enc a) (enc b)))) := opw_pure fun a b H v w fp fq i1 i2 n P p =>
  ⟨_, _, p.2, .bl _, fun Q q => ⟨_, _, i1.dpD _ _ _ p.1.1.2, i2.dpD _ _ _ p.1.2.2, p.1.1.1, p.1.2.1, q⟩⟩
/-! ### tuples and lists by place -/
theorem im_tup {H : Hp} {v : V} {xs : List α} {fp : List Addr} (h : Im K H v (enc xs) fp) : ∃ a vs, v = .ref a ∧ TupR H a vs ∧ ImA K H vs (xs.map enc) fp := by
  cases h with
  | tup e a => exact ⟨_, _, rfl, e, a⟩
theorem im_lst {H : Hp} {v : V} {xs : Lst α} {fp : List Addr} (h : Im K H v (enc xs) fp) : ∃ a vs fq, v = .ref a ∧ H a = some (.lst vs) ∧ ImA K H vs (xs.l.map enc) fq ∧ fp = a :: fq := by
  cases h with
  | lst e a q => exact ⟨_, _, _, rfl, e, a, q⟩
theorem ima_at {H : Hp} {vs : List V} {xs : List α} {fp : List Addr} {i : Int} {a : α} [Pu α] (h : ImA K H vs (xs.map enc) fp) (e : atI xs i = some a) : ∃ v, atI vs i = some v ∧ Im K H v (enc a) [] := by
  unfold atI at e ⊢
  rw [h.len, List.length_map]
  cases hx : ixN xs.length i with
  | none => rw [hx] at e; cases e
  | some j =>
    rw [hx] at e
    have e : xs[j]? = some a := e
    obtain ⟨v, fq, h1, h2, h3⟩ := h.get (i := j) (d := enc a) (by rw [List.getElem?_map, e]; rfl)
    have := Pu.pu h2
    subst this
    exact ⟨v, h1, h2⟩
theorem ow_ixT [Pu α] : OpW K (rIxT K) (fun (xs : List α) (i : Int) n P => ∃ a, atI xs i = some a ∧ P a n) := opw_pure fun xs i H v w fp fq i1 i2 n P p => by
  obtain ⟨a, ea, pa⟩ := p
  obtain ⟨t, vs, rfl, hT, hA⟩ := im_tup i1
  cases i2
  obtain ⟨u, h1, h2⟩ := ima_at hA ea
  exact ⟨a, u, pa, h2, fun Q q => ⟨t, vs, i, u, rfl, rfl, hT.q, h1, q⟩⟩
theorem ow_ixL [Pu α] : OpW K (rIxL K) (fun (xs : Lst α) (i : Int) n P => ∃ a, atI xs.l i = some a ∧ P a n) := opw_pure fun xs i H v w fp fq i1 i2 n P p => by
  obtain ⟨a, ea, pa⟩ := p
  obtain ⟨t, vs, fq', rfl, hT, hA, _⟩ := im_lst i1
  cases i2
  obtain ⟨u, h1, h2⟩ := ima_at hA ea
  exact ⟨a, u, pa, h2, fun Q q => ⟨t, vs, i, u, rfl, rfl, .inl (.inl hT), h1, q⟩⟩
theorem atN {xs : List α} {i : Nat} : atI xs (i : Int) = xs[i]? := by
  cases h : xs[i]? with
  | none =>
    have h1 := List.getElem?_eq_none_iff.mp h
    unfold atI ixN
    rw [if_pos (by omega), if_neg (by omega)]
    rfl
  | some a => exact atI_nat h
theorem ow_ixTN [Pu α] : OpW K (rIxT K) (fun (xs : List α) (i : Nat) n P => ∃ a, xs[i]? = some a ∧ P a n) := fun xs i H v w fp fq i1 i2 n P p => ow_ixT xs (i : Int) H v w fp fq i1 i2 n P (by obtain ⟨a, h1, h2⟩ := p; exact ⟨a, by rw [atN]; exact h1, h2⟩)
theorem ow_ixLN [Pu α] : OpW K (rIxL K) (fun (xs : Lst α) (i : Nat) n P => ∃ a, xs.l[i]? = some a ∧ P a n) := fun xs i H v w fp fq i1 i2 n P p => ow_ixL xs (i : Int) H v w fp fq i1 i2 n P (by obtain ⟨a, h1, h2⟩ := p; exact ⟨a, by rw [atN]; exact h1, h2⟩)
/-! pairs, threes by written places -/
theorem ow_fst [Pu α] [Pu β] : OpW K (rIxT K) (fun (x : α × β) (i : Nat) => reqW (i = 0) (retW x.1)) := opw_pure fun x i H v w fp fq i1 i2 n P p => by
  obtain ⟨rfl, pa⟩ := p
  cases i2
  cases i1 with
  | tup e b =>
    obtain ⟨v1, v2, f1, f2, rfl, h1, h2, _⟩ := ima2 b
    have := Pu.pu h1; subst this
    exact ⟨x.1, v1, pa, h1, fun Q q => ⟨_, _, _, _, rfl, rfl, e.q, rfl, q⟩⟩
theorem ow_snd [Pu α] [Pu β] : OpW K (rIxT K) (fun (x : α × β) (i : Nat) => reqW (i = 1) (retW x.2)) := opw_pure fun x i H v w fp fq i1 i2 n P p => by
  obtain ⟨rfl, pa⟩ := p
  cases i2
  cases i1 with
  | tup e b =>
    obtain ⟨v1, v2, f1, f2, rfl, h1, h2, _⟩ := ima2 b
    have := Pu.pu h2; subst this
    exact ⟨x.2, v2, pa, h2, fun Q q => ⟨_, _, _, _, rfl, rfl, e.q, rfl, q⟩⟩
/-! tuples joined -/
theorem ow_cat [Pu α] : OpW K (rCatA K) (fun (xs ys : List α) => reqW (xs.length + ys.length ≤ sizeLine) (retW (xs ++ ys))) := fun xs ys H v w fp fq i1 i2 n P p Q q => by
  have e1 := Pu.pu i1
  have e2 := Pu.pu i2
  subst e1 e2
  obtain ⟨a, vs, rfl, hT, hA⟩ := im_tup i1
  obtain ⟨b, ws, rfl, hT2, hA2⟩ := im_tup i2
  have hl1 := hA.len
  have hl2 := hA2.len
  rw [List.length_map] at hl1 hl2
  have hc : ImA K H (vs ++ ws) ((xs ++ ys).map enc) [] := by rw [List.map_append]; exact hA.app hA2
  refine ⟨a, b, vs, ws, rfl, rfl, hT.q, hT2.q, by rw [hl1, hl2]; exact p.1, fun e => ?_, fun e1 e => ?_, fun _ _ t nt => ?_⟩
  · subst e
    exact q _ H _ [] p.2 (Same.refl H) (.tup hT2 (by rw [List.nil_append] at hc; exact hc)) ⟨List.nodup_nil, fun x h => absurd h List.not_mem_nil⟩
  · subst e
    exact q _ H _ [] p.2 (Same.refl H) (.tup hT (by rw [List.append_nil] at hc; exact hc)) ⟨List.nodup_nil, fun x h => absurd h List.not_mem_nil⟩
  · have s := same_new (Same.refl H) nt (o := .tup (vs ++ ws))
    exact q _ _ _ [] p.2 s (.tup upd_same (hc.same s)) ⟨List.nodup_nil, fun x h => absurd h List.not_mem_nil⟩
theorem rep_zerosR {l : Addr} {k : Int} {H : Hp} {Q : VK} (hT : TupR H l [V.int 0]) (h1 : -1000 ≤ k) (h2 : k ≤ 1000) (h : ∀ q H', Same H H' → TupR H' q (nv (List.replicate k.toNat 0)) → Q (.ref q) H') : rRepI K (.ref l) (.int k) H Q := by
  refine ⟨l, k, [V.int 0], rfl, rfl, hT.q, by simp, h1, h2, by simp, fun e => ?_, fun _ p np => ?_⟩
  · subst e
    exact h l H (Same.refl H) hT
  · refine h p _ (same_new (Same.refl H) np) ?_
    unfold TupR
    rw [upd_same, rep_zero]
theorem ow_repZ : OpW K (rRepI K) (fun (xs : List Nat) (k : Int) => reqW (xs = [0] ∧ -1000 ≤ k ∧ k ≤ 1000) (retW (List.replicate k.toNat 0))) := fun xs k H v w fp fq i1 i2 n P p Q q => by
  obtain ⟨⟨rfl, k1, k2⟩, pa⟩ := p
  obtain ⟨a, vs, rfl, hT, hA⟩ := im_tup i1
  cases i2
  obtain ⟨u, rfl, hu⟩ := ima1 hA
  cases hu
  refine rep_zerosR hT k1 k2 fun t H' s hT' => q _ H' _ [] pa s (.tup hT' ?_) ⟨List.nodup_nil, fun x h => absurd h List.not_mem_nil⟩
  generalize k.toNat = m
  have : ∀ m : Nat, ImA K H' (nv (List.replicate m 0)) ((List.replicate m (0 : Nat)).map enc) [] := fun m => by
    induction m with
    | zero => exact .nil
    | succ m ih => rw [List.replicate_succ]; exact .cons (.int _) ih rfl
  exact this m
/-! lists joined -/
theorem nodup_app {xs ys : List Addr} (h1 : xs.Nodup) (h2 : ys.Nodup) (h : ∀ x ∈ xs, x ∉ ys) : (xs ++ ys).Nodup := List.nodup_append.mpr ⟨h1, h2, fun x hx y hy e => h x hx (by rw [e]; exact hy)⟩
theorem ow_catL [Pu α] : OpW K rCat (fun (xs ys : Lst α) => reqW (xs.l.length + ys.l.length ≤ sizeLine) (retW (⟨xs.l ++ ys.l⟩ : Lst α))) := fun xs ys H v w fp fq i1 i2 n P p Q q => by
  obtain ⟨a, vs, f1, rfl, hT, hA, _⟩ := im_lst i1
  obtain ⟨b, ws, f2, rfl, hT2, hA2, _⟩ := im_lst i2
  have e1 := ima_pu hA
  have e2 := ima_pu hA2
  subst e1 e2
  have hl1 := hA.len
  have hl2 := hA2.len
  rw [List.length_map] at hl1 hl2
  refine ⟨a, b, vs, ws, rfl, rfl, hT, hT2, by rw [hl1, hl2]; exact p.1, fun t nt => ?_⟩
  have s := same_new (Same.refl H) nt (o := .lst (vs ++ ws))
  refine q _ _ _ [t] p.2 s (.lst upd_same ?_ rfl) ⟨List.nodup_cons.mpr ⟨List.not_mem_nil, List.nodup_nil⟩, fun x hx => by rw [List.mem_singleton.mp hx]; exact nt⟩
  show ImA K _ _ ((xs.l ++ ys.l).map enc) []
  rw [List.map_append]
  exact (hA.app hA2).same s
theorem ow_repL [Pu α] : OpW K rRep (fun (xs : Lst α) (k : Int) => reqW (-(2 ^ 63) ≤ k ∧ k < 2 ^ 63 ∧ xs.l.length * k.toNat ≤ sizeLine) (retW (⟨(List.replicate k.toNat xs.l).flatten⟩ : Lst α))) := fun xs k H v w fp fq i1 i2 n P p Q q => by
  obtain ⟨a, vs, f1, rfl, hT, hA, _⟩ := im_lst i1
  have e1 := ima_pu hA
  subst e1
  cases i2
  have hl1 := hA.len
  rw [List.length_map] at hl1
  refine ⟨a, k, vs, rfl, rfl, hT, p.1.1, p.1.2.1, by rw [hl1]; exact p.1.2.2, fun t nt => ?_⟩
  have s := same_new (Same.refl H) nt (o := .lst (List.replicate k.toNat vs).flatten)
  refine q _ _ _ [t] p.2 s (.lst upd_same ?_ rfl) ⟨List.nodup_cons.mpr ⟨List.not_mem_nil, List.nodup_nil⟩, fun x hx => by rw [List.mem_singleton.mp hx]; exact nt⟩
  refine ImA.same ?_ s
  generalize k.toNat = m
  show ImA K H _ ((List.replicate m xs.l).flatten.map enc) []
  induction m with
  | zero => exact .nil
  | succ m ih =>
    rw [List.replicate_succ, List.replicate_succ, List.flatten_cons, List.flatten_cons, List.map_append]
    exact hA.app ih
/-! x in a tuple, a list of numbers -/
theorem ima_nums {H : Hp} : ∀ {xs : List Nat} {vs : List V} {fp : List Addr}, ImA K H vs (xs.map enc) fp → vs = nv xs
  | [], _, _, h => by cases h; rfl
  | x :: xs, _, _, h => by
    cases h with
    | cons a b q =>
      cases a
      rw [ima_nums b]
      rfl
theorem nums_ima {H : Hp} : ∀ xs : List Nat, ImA K H (nv xs) (xs.map enc) []
  | [] => .nil
  | x :: xs => .cons (.int _) (nums_ima xs) rfl
theorem im_nv {H : Hp} {v : V} {xs : List Nat} {fp : List Addr} (h : Im K H v (enc xs) fp) : ∃ a, v = .ref a ∧ TupR H a (nv xs) := by
  obtain ⟨a, vs, rfl, hT, hA⟩ := im_tup h
  rw [ima_nums hA] at hT
  exact ⟨a, rfl, hT⟩
theorem nv_im {H : Hp} {a : Addr} {xs : List Nat} (h : TupR H a (nv xs)) : Im K H (.ref a) (enc xs) [] := .tup h (nums_ima xs)
theorem im_nvL {H : Hp} {v : V} {xs : Lst Nat} {fp : List Addr} (h : Im K H v (enc xs) fp) : ∃ a, v = .ref a ∧ H a = some (.lst (nv xs.l)) := by
  obtain ⟨a, vs, _, rfl, hT, hA, _⟩ := im_lst h
  rw [ima_nums hA] at hT
  exact ⟨a, rfl, hT⟩
theorem nv_imL {H : Hp} {a : Addr} {xs : List Nat} (h : H a = some (.lst (nv xs))) : Im K H (.ref a) (enc (⟨xs⟩ : Lst Nat)) [a] := .lst h (nums_ima xs) rfl
theorem in_nums {c : Nat} {ns : List Nat} : inV (.int (c : Int)) (nv ns) = decide (c ∈ ns) := by
  unfold inV nv
  rw [List.any_map]
  induction ns with
  | nil => rfl
  | cons n ns ih =>
    rw [List.any_cons, ih]
    have : ((fun y => eqV y (V.int (c : Int))) ∘ fun (n : Nat) => V.int (n : Int)) n = decide (c = n) := by
      show eqV (.int (n : Int)) (.int (c : Int)) = decide (c = n)
      simp only [eqV]
      by_cases e : c = n
      · subst e; simp
      · simp [e]; omega
    rw [this]
    simp
theorem ow_inT : OpW K (rIn K false) (fun (x : Nat) (xs : List Nat) => retW (decide (x ∈ xs))) := opw_pure fun x xs H v w fp fq i1 i2 n P p => by
  cases i1
  obtain ⟨a, rfl, hT⟩ := im_nv i2
  exact ⟨_, _, p, .bl _, fun Q q => ⟨a, nv xs, rfl, .inr hT.q, rfl, flat_nv xs, by rw [in_nums]; exact q⟩⟩
theorem ow_inL : OpW K (rIn K false) (fun (x : Nat) (xs : Lst Nat) => retW (decide (x ∈ xs.l))) := opw_pure fun x xs H v w fp fq i1 i2 n P p => by
  cases i1
  obtain ⟨a, rfl, hT⟩ := im_nvL i2
  exact ⟨_, _, p, .bl _, fun Q q => ⟨a, nv xs.l, rfl, .inl (.inl (.inl hT)), rfl, flat_nv xs.l, by rw [in_nums]; exact q⟩⟩
theorem ow_ninT : OpW K (rIn K true) (fun (x : Nat) (xs : List Nat) => retW (!decide (x ∈ xs))) := opw_pure fun x xs H v w fp fq i1 i2 n P p => by
  cases i1
  obtain ⟨a, rfl, hT⟩ := im_nv i2
  exact ⟨_, _, p, .bl _, fun Q q => ⟨a, nv xs, rfl, .inr hT.q, rfl, flat_nv xs, by show Q (.bl (!inV _ _)) H; rw [in_nums]; exact q⟩⟩
theorem ow_ninL : OpW K (rIn K true) (fun (x : Nat) (xs : Lst Nat) => retW (!decide (x ∈ xs.l))) := opw_pure fun x xs H v w fp fq i1 i2 n P p => by
  cases i1
  obtain ⟨a, rfl, hT⟩ := im_nvL i2
  exact ⟨_, _, p, .bl _, fun Q q => ⟨a, nv xs.l, rfl, .inl (.inl (.inl hT)), rfl, flat_nv xs.l, by show Q (.bl (!inV _ _)) H; rw [in_nums]; exact q⟩⟩
end
end Bf
namespace Bf
open PySem PySem.Spec PyProof.Rows L2 LamX NdefX
section
variable {K : PySem.W.Frag} {T : List (Addr × Str)} {ρ : List Sl}
variable {α β γ δ : Type} [Enc α] [Enc β] [Enc γ] [Enc δ]
/-! ### one part and what is made of it -/
def UnW (K : PySem.W.Frag) {α γ : Type} [Enc α] [Enc γ] (r : V → Hp → VK → Prop) (f : α → M γ) : Prop := ∀ (a : α) (H : Hp) (v : V) (fp : List Addr), Im K H v (enc a) fp → ∀ n (P : γ → Nat → Prop), f a n P →
  ∀ Q : VK, (∀ (c : γ) (H' : Hp) (v' : V) (fr : List Addr), P c n → Same H H' → Im K H' v' (enc c) fr → (fr.Nodup ∧ ∀ x ∈ fr, H x = none) → Q v' H') → r v H Q
theorem re_un {ta : TE} {t : TE} {ma : M α} {f : α → M γ} {r : V → Hp → VK → Prop} {f1 : Bool} (ht : ∀ σ H Q, (ta σ H fun x H1 => r x H1 Q) → t σ H Q) (hr : UnW K r f) (ha : RE K T ta ρ f1 ma) : RE K T t ρ true (bindW ma f) := fun Bs po φ σ H n st P p Q q =>
  ht σ H Q (ha Bs po φ σ H n st _ p _ fun a n1 v H1 fp pa a1 i1 g1 =>
    hr a H1 v fp i1 n1 _ pa Q fun c H3 v' fr pc s3 i3 g3 => q c n1 v' H3 fr pc (a1.trans (Af.same s3)) i3 (Fp.back a1.fr (fp_new (st.af a1) g3)))
theorem unw_pure {r : V → Hp → VK → Prop} {f : α → M γ} (g : ∀ (a : α) (H : Hp) (v : V) (fp : List Addr), Im K H v (enc a) fp → ∀ n (P : γ → Nat → Prop), f a n P → ∃ c v', P c n ∧ Im K H v' (enc c) [] ∧ ∀ Q : VK, Q v' H → r v H Q) : UnW K r f :=
  fun a H v fp i1 n P p Q q => by
    obtain ⟨c, v', h1, h2, h3⟩ := g a H v fp i1 n P p
    exact h3 Q (q c H v' [] h1 (Same.refl H) h2 ⟨List.nodup_nil, fun x h => absurd h List.not_mem_nil⟩)
/-- a built-in of one argument -/
theorem re_cb {ta : TE} {ma : M α} {f : α → M γ} {r : List V → Hp → VK → Prop} {f1 : Bool} (hr : UnW K (fun x => r [x]) f) (ha : RE K T ta ρ f1 ma) : RE K T (tCB r (tCons ta tNil)) ρ true (bindW ma f) := re_un (r := fun x => r [x]) (fun _ _ _ h => h) hr ha
/-- a built-in of two -/
theorem re_cb2 {ta tb : TE} {ma : M α} {mb : M β} {f : α → β → M γ} {r : List V → Hp → VK → Prop} {f1 f2 : Bool} (hr : OpW K (fun x y => r [x, y]) f) (ha : RE K T ta ρ f1 ma) (hb : RE K T tb ρ f2 mb) : RE K T (tCB r (tCons ta (tCons tb tNil))) ρ true (b2W ma mb f) :=
  fun Bs po φ σ H n st P p Q q => re_op (r := fun x y => r [x, y]) hr ha hb Bs po φ σ H n st P p Q q
theorem re_neg {ta : TE} {ma : M Int} {f1 : Bool} (ha : RE K T ta ρ f1 ma) : RE K T (tUn (rU fun i => .int (-i)) ta) ρ true (mapW (fun z : Int => -z) ma) := re_un (r := rU fun i => .int (-i)) (fun _ _ _ h => h)
  (unw_pure fun a H v fp i1 n P p => by cases i1; exact ⟨-a, _, p, .int _, fun Q q => ⟨a, rfl, q⟩⟩) ha
theorem uw_lenT : UnW K (fun x H Q => ∃ p ys, [x] = [.ref p] ∧ (SqL K H p ys ∨ SqT K H p ys) ∧ Q (.int ys.length) H) (fun xs : List α => retW xs.length) := unw_pure fun xs H v fp i1 n P p => by
  obtain ⟨a, vs, rfl, hT, hA⟩ := im_tup i1
  have := hA.len
  rw [List.length_map] at this
  exact ⟨_, _, p, .int _, fun Q q => ⟨a, vs, rfl, .inr hT.q, by rw [this]; exact q⟩⟩
theorem uw_lenL : UnW K (fun x H Q => ∃ p ys, [x] = [.ref p] ∧ (SqL K H p ys ∨ SqT K H p ys) ∧ Q (.int ys.length) H) (fun xs : Lst α => retW xs.l.length) := unw_pure fun xs H v fp i1 n P p => by
  obtain ⟨a, vs, _, rfl, hT, hA, _⟩ := im_lst i1
  have := hA.len
  rw [List.length_map] at this
  exact ⟨_, _, p, .int _, fun Q q => ⟨a, vs, rfl, .inl (.inl (.inl hT)), by rw [this]; exact q⟩⟩
def rTupOf (K : PySem.W.Frag) : List V → Hp → VK → Prop := fun xs H Q => ∃ p ys, xs = [.ref p] ∧ ((SqL K H p ys ∧ ∀ l, H l = none → Q (.ref l) (upd H l (.tup ys))) ∨ (SqT K H p ys ∧ Q (.ref p) H))
theorem uw_tupL [Pu α] : UnW K (fun x => rTupOf K [x]) (fun xs : Lst α => retW xs.l) := fun xs H v fp i1 n P p Q q => by
  obtain ⟨a, vs, f1, rfl, hT, hA, _⟩ := im_lst i1
  have := ima_pu hA
  subst this
  refine ⟨a, vs, rfl, .inl ⟨.inl (.inl hT), fun t nt => ?_⟩⟩
  have s := same_new (Same.refl H) nt (o := .tup vs)
  exact q _ _ _ [] p s (.tup upd_same (hA.same s)) ⟨List.nodup_nil, fun x h => absurd h List.not_mem_nil⟩
theorem uw_tupT [Pu α] : UnW K (fun x => rTupOf K [x]) (fun xs : List α => retW xs) := unw_pure fun xs H v fp i1 n P p => by
  have := Pu.pu i1
  subst this
  obtain ⟨a, vs, rfl, hT, hA⟩ := im_tup i1
  exact ⟨_, _, p, i1, fun Q q => ⟨a, vs, rfl, .inr ⟨hT.q, q⟩⟩⟩
def rLstOf (K : PySem.W.Frag) : List V → Hp → VK → Prop := fun xs H Q => ∃ p ys, xs = [.ref p] ∧ (SqL K H p ys ∨ SqT K H p ys) ∧ ∀ l, H l = none → Q (.ref l) (upd H l (.lst ys))
theorem uw_lstT [Pu α] : UnW K (fun x => rLstOf K [x]) (fun xs : List α => retW (⟨xs⟩ : Lst α)) := fun xs H v fp i1 n P p Q q => by
  have := Pu.pu i1
  subst this
  obtain ⟨a, vs, rfl, hT, hA⟩ := im_tup i1
  refine ⟨a, vs, rfl, .inr hT.q, fun t nt => ?_⟩
  have s := same_new (Same.refl H) nt (o := .lst vs)
  exact q _ _ _ [t] p s (.lst upd_same (hA.same s) rfl) ⟨List.nodup_cons.mpr ⟨List.not_mem_nil, List.nodup_nil⟩, fun x hx => by rw [List.mem_singleton.mp hx]; exact nt⟩
theorem uw_lstL [Pu α] : UnW K (fun x => rLstOf K [x]) (fun xs : Lst α => retW (⟨xs.l⟩ : Lst α)) := fun xs H v fp i1 n P p Q q => by
  obtain ⟨a, vs, f1, rfl, hT, hA, _⟩ := im_lst i1
  have := ima_pu hA
  subst this
  refine ⟨a, vs, rfl, .inl (.inl (.inl hT)), fun t nt => ?_⟩
  have s := same_new (Same.refl H) nt (o := .lst vs)
  exact q _ _ _ [t] p s (.lst upd_same (hA.same s) rfl) ⟨List.nodup_cons.mpr ⟨List.not_mem_nil, List.nodup_nil⟩, fun x hx => by rw [List.mem_singleton.mp hx]; exact nt⟩
theorem ima_bools {H : Hp} : ∀ {xs : List Bool} {vs : List V} {fp : List Addr}, ImA K H vs (xs.map enc) fp → vs = xs.map V.bl
  | [], _, _, h => by cases h; rfl
  | x :: xs, _, _, h => by
    cases h with
    | cons a b q =>
      cases a
      rw [ima_bools b]
      rfl
theorem uw_all : UnW K (fun x => rAll K [x]) (fun xs : Lst Bool => retW (xs.l.all id)) := unw_pure fun xs H v fp i1 n P p => by
  obtain ⟨a, vs, _, rfl, hT, hA, _⟩ := im_lst i1
  rw [ima_bools hA] at hT
  exact ⟨_, _, p, .bl _, fun Q q => ⟨a, xs.l, rfl, .inl (.inl hT), q⟩⟩
theorem uw_any : UnW K (fun x => rAny K [x]) (fun xs : Lst Bool => retW (xs.l.any id)) := unw_pure fun xs H v fp i1 n P p => by
  obtain ⟨a, vs, _, rfl, hT, hA, _⟩ := im_lst i1
  rw [ima_bools hA] at hT
  exact ⟨_, _, p, .bl _, fun Q q => ⟨a, xs.l, rfl, .inl (.inl hT), q⟩⟩
theorem uw_isN : UnW K (fun x H (Q : VK) => Q (.bl (decide (x = .non))) H) (fun x : Option Nat => retW x.isNone) := unw_pure fun x H v fp i1 n P p => by
  cases x with
  | none => cases i1; exact ⟨_, _, p, .bl _, fun Q q => q⟩
  | some a => cases i1; exact ⟨_, _, p, .bl _, fun Q q => q⟩
theorem uw_isNT : UnW K (fun x H (Q : VK) => Q (.bl (decide (x = .non))) H) (fun x : Option (List α) => retW x.isNone) := unw_pure fun x H v fp i1 n P p => by
  cases x with
  | none => cases i1; exact ⟨_, _, p, .bl _, fun Q q => q⟩
  | some a => cases i1; exact ⟨_, _, p, .bl _, fun Q q => q⟩
theorem uw_isNP : UnW K (fun x H (Q : VK) => Q (.bl (decide (x = .non))) H) (fun x : Option (α × β) => retW x.isNone) := unw_pure fun x H v fp i1 n P p => by
  cases x with
  | none => cases i1; exact ⟨_, _, p, .bl _, fun Q q => q⟩
  | some a => cases i1; exact ⟨_, _, p, .bl _, fun Q q => q⟩
theorem uw_notNT : UnW K (fun x H (Q : VK) => Q (.bl (!decide (x = .non))) H) (fun x : Option (List α) => retW (!x.isNone)) := unw_pure fun x H v fp i1 n P p => by
  cases x with
  | none => cases i1; exact ⟨_, _, p, .bl _, fun Q q => q⟩
  | some a => cases i1; exact ⟨_, _, p, .bl _, fun Q q => q⟩
theorem uw_notN : UnW K (fun x H (Q : VK) => Q (.bl (!decide (x = .non))) H) (fun x : Option Nat => retW (!x.isNone)) := unw_pure fun x H v fp i1 n P p => by
  cases x with
  | none => cases i1; exact ⟨_, _, p, .bl _, fun Q q => q⟩
  | some a => cases i1; exact ⟨_, _, p, .bl _, fun Q q => q⟩
theorem uw_absZ : UnW K (fun x H Q => ∃ i, [x] = [.int i] ∧ Q (.int (if i < 0 then -i else i)) H) (fun z : Int => retW (if z < 0 then -z else z)) := unw_pure fun z H v fp i1 n P p => by
  cases i1
  exact ⟨_, _, p, .int _, fun Q q => ⟨z, rfl, q⟩⟩
theorem ow_min : OpW K (fun x y H Q => ∃ i j, [x, y] = [.int i, .int j] ∧ Q (.int (if j < i then j else i)) H) (fun a b : Nat => retW (min a b)) := opw_n0 fun a b H Q q => ⟨a, b, rfl, by
  have e : (if (b : Int) < (a : Int) then (b : Int) else (a : Int)) = ((min a b : Nat) : Int) := by split <;> omega
  rw [e]; exact q⟩
theorem ow_max : OpW K (fun x y H Q => ∃ i j, [x, y] = [.int i, .int j] ∧ Q (.int (if j > i then j else i)) H) (fun a b : Nat => retW (max a b)) := opw_n0 fun a b H Q q => ⟨a, b, rfl, by
  have e : (if (b : Int) > (a : Int) then (b : Int) else (a : Int)) = ((max a b : Nat) : Int) := by split <;> omega
  rw [e]; exact q⟩
theorem ow_maxZ : OpW K (fun x y H Q => ∃ i j, [x, y] = [.int i, .int j] ∧ Q (.int (if j > i then j else i)) H) (fun a b : Int => retW (max a b)) := opw_z0 fun a b H Q q => ⟨a, b, rfl, by
  have e : (if b > a then b else a) = max a b := by split <;> omega
  rw [e]; exact q⟩
theorem ow_minZ : OpW K (fun x y H Q => ∃ i j, [x, y] = [.int i, .int j] ∧ Q (.int (if j < i then j else i)) H) (fun a b : Int => retW (min a b)) := opw_z0 fun a b H Q q => ⟨a, b, rfl, by
  have e : (if b < a then b else a) = min a b := by split <;> omega
  rw [e]; exact q⟩
/-- int of a truth -/
theorem uw_intB : UnW K (fun x H Q => (∃ i, [x] = [.int i] ∧ Q (.int i) H) ∨ ∃ k, [x] = [.bl k] ∧ Q (.int (if k then 1 else 0)) H) (fun b : Bool => retW (if b then 1 else 0 : Nat)) := unw_pure fun b H v fp i1 n P p => by
  cases i1
  refine ⟨_, .int (((if b then 1 else 0 : Nat)) : Int), p, .int _, fun Q q => .inr ⟨b, rfl, ?_⟩⟩
  cases b <;> exact q
/-! repr -/
def ReprOk (d : PyData) : Prop := d.showable = true ∧ d.hasDict = false ∧ d.depth < 60 ∧ d.shown.length ≤ sizeLine
def rReprA (K : PySem.W.Frag) : List V → Hp → VK → Prop := fun xs H Q => (xs = [.non] ∧ Q (.str "None") H) ∨ ∃ a d, xs = [.ref a] ∧ Dp K H (.ref a) d ∧ d.showable = true ∧ d.hasDict = false ∧ d.depth < 60 ∧ d.shown.length ≤ sizeLine ∧ Q (.str d.shown) H
theorem uw_reprT : UnW K (fun x => rReprA K [x]) (fun xs : List α => reqW (ReprOk (enc xs)) (retW (enc xs).shown)) := unw_pure fun xs H v fp i1 n P p => by
  obtain ⟨a, vs, rfl, hT, hA⟩ := im_tup i1
  exact ⟨_, _, p.2, .str _, fun Q q => .inr ⟨a, _, rfl, i1.dpD _ _ _ p.1.2.1, p.1.1, p.1.2.1, p.1.2.2.1, p.1.2.2.2, q⟩⟩
theorem uw_reprL : UnW K (fun x => rReprA K [x]) (fun xs : Lst α => reqW (ReprOk (enc xs)) (retW (enc xs).shown)) := unw_pure fun xs H v fp i1 n P p => by
  obtain ⟨a, vs, _, rfl, hT, hA, _⟩ := im_lst i1
  exact ⟨_, _, p.2, .str _, fun Q q => .inr ⟨a, _, rfl, i1.dpD _ _ _ p.1.2.1, p.1.1, p.1.2.1, p.1.2.2.1, p.1.2.2.2, q⟩⟩
theorem uw_reprP : UnW K (fun x => rReprA K [x]) (fun x : α × β => reqW (ReprOk (enc x)) (retW (enc x).shown)) := unw_pure fun xs H v fp i1 n P p => by
  cases i1 with
  | tup e b => exact ⟨_, _, p.2, .str _, fun Q q => .inr ⟨_, _, rfl, .tup e.q (b.dpD _ _ _ p.1.2.1), p.1.1, p.1.2.1, p.1.2.2.1, p.1.2.2.2, q⟩⟩
theorem uw_reprOT : UnW K (fun x => rReprA K [x]) (fun xs : Option (List α) => reqW (∀ l, xs = some l → ReprOk (enc l)) (retW (match xs with | none => ("None" : Str) | some l => (enc l).shown))) := unw_pure fun xs H v fp i1 n P p => by
  cases xs with
  | none => cases i1; exact ⟨_, _, p.2, .str _, fun Q q => .inl ⟨rfl, q⟩⟩
  | some l =>
    have z := p.1 l rfl
    obtain ⟨a, vs, rfl, hT, hA⟩ := im_tup (xs := l) i1
    exact ⟨_, _, p.2, .str _, fun Q q => .inr ⟨a, _, rfl, Im.dpD _ _ _ i1 z.2.1, z.1, z.2.1, z.2.2.1, z.2.2.2, q⟩⟩
/-! slices -/
def TO' := L2.St → Hp → (Option Int → Hp → Prop) → Prop
def RO (K : PySem.W.Frag) (T : List (Addr × Str)) (t : TO') (ρ : List Sl) (m : M (Option Int)) : Prop := ∀ (Bs : Addr → HO → Prop) (po : Option Addr) (φ : Nat → List Addr) (σ : L2.St) (H : Hp) (n : Nat), ST K T Bs po ρ φ σ H n → ∀ P : Option Int → Nat → Prop, m n P →
  ∀ Q : Option Int → Hp → Prop, (∀ (a : Option Int) (n' : Nat) (H' : Hp), P a n' → Af K T po H n H' n' → Q a H') → t σ H Q
theorem ro_none : RO K T tNoPart ρ (retW none) := fun Bs po φ σ H n st P p Q q => q none n H p Af.refl
theorem ro_nat {t : TE} {m : M Nat} {f : Bool} (h : RE K T t ρ f m) : RO K T (tPart t) ρ (bindW m fun k => retW (some (k : Int))) := fun Bs po φ σ H n st P p Q q => h Bs po φ σ H n st _ p _ fun a n' v H' fp pa af im g => by
  cases im
  exact ⟨_, rfl, q _ n' H' pa af⟩
theorem ro_int {t : TE} {m : M Int} {f : Bool} (h : RE K T t ρ f m) : RO K T (tPart t) ρ (bindW m fun k => retW (some k)) := fun Bs po φ σ H n st P p Q q => h Bs po φ σ H n st _ p _ fun a n' v H' fp pa af im g => by
  cases im
  exact ⟨_, rfl, q _ n' H' pa af⟩
def cutW (xs : List α) (lo hi : Option Int) : List α := (xs.drop (HT.sIx xs.length 0 lo)).take (HT.sIx xs.length xs.length hi - HT.sIx xs.length 0 lo)
theorem ima_drop {H : Hp} [Pu α] : ∀ {xs : List α} {vs : List V} (k : Nat), ImA K H vs (xs.map enc) [] → ImA K H (vs.drop k) ((xs.drop k).map enc) []
  | [], _, k, h => by cases h; rw [List.drop_nil, List.drop_nil]; exact .nil
  | x :: xs, _, 0, h => h
  | x :: xs, _, k + 1, h => by
    cases h with
    | cons a b q =>
      have := ima_pu b
      subst this
      exact ima_drop k b
theorem ima_take {H : Hp} [Pu α] : ∀ {xs : List α} {vs : List V} (k : Nat), ImA K H vs (xs.map enc) [] → ImA K H (vs.take k) ((xs.take k).map enc) []
  | [], _, k, h => by cases h; rw [List.take_nil, List.take_nil]; exact .nil
  | x :: xs, _, 0, h => .nil
  | x :: xs, _, k + 1, h => by
    cases h with
    | cons a b q =>
      have := ima_pu b
      subst this
      have e := Pu.pu a
      subst e
      exact .cons a (ima_take k b) rfl
theorem ima_cut {H : Hp} [Pu α] {xs : List α} {vs : List V} {lo hi : Option Int} (h : ImA K H vs (xs.map enc) []) : ImA K H (cutV vs lo hi) ((cutW xs lo hi).map enc) [] := by
  unfold cutV cutW
  rw [h.len, List.length_map]
  exact ima_take _ (ima_drop _ h)
def slTW {α : Type} (m : M (List α)) (ml mh : M (Option Int)) : M (List α) := fun n P => m n fun xs n1 => ml n1 fun lo n2 => mh n2 fun hi n3 => P (cutW xs lo hi) n3
def slLW {α : Type} (m : M (Lst α)) (ml mh : M (Option Int)) : M (Lst α) := fun n P => m n fun xs n1 => ml n1 fun lo n2 => mh n2 fun hi n3 => P (⟨cutW xs.l lo hi⟩ : Lst α) n3
theorem re_slT [Pu α] {te : TE} {tl th : TO'} {m : M (List α)} {ml mh : M (Option Int)} {f : Bool} (h : RE K T te ρ f m) (hl : RO K T tl ρ ml) (hh : RO K T th ρ mh) :
    RE K T (tSl (rSlA K) te tl th) ρ true (slTW m ml mh) := fun Bs po φ σ H n st P p Q q =>
  h Bs po φ σ H n st _ p _ fun xs n1 v H1 fp pa a1 i1 g1 => hl Bs po φ σ H1 n1 (st.af a1) _ pa _ fun lo n2 H2 pb a2 => hh Bs po φ σ H2 n2 ((st.af a1).af a2) _ pb _ fun hi n3 H3 pc a3 => by
    have i3 := (i1.af g1.1 a2.fr).af g1.1 a3.fr
    have := Pu.pu i3
    subst this
    obtain ⟨a, vs, rfl, hT, hA⟩ := im_tup i3
    have hc := ima_cut (lo := lo) (hi := hi) hA
    have af := (a1.trans a2).trans a3
    refine ⟨a, vs, rfl, hT.q, fun w => ?_, fun w t nt => ?_⟩
    · refine q _ n3 _ H3 [] pc af (.tup hT ?_) Fp.nil
      have e : cutV vs lo hi = vs := by
        unfold cutV
        rw [w.1, w.2, List.drop_zero, Nat.sub_zero, List.take_length]
      rw [e] at hc
      exact hc
    · have s := same_new (Same.refl H3) nt (o := .tup (cutV vs lo hi))
      exact q _ n3 _ _ [] pc (af.trans (Af.same s)) (.tup upd_same (hc.same s)) Fp.nil
theorem re_slL [Pu α] {te : TE} {tl th : TO'} {m : M (Lst α)} {ml mh : M (Option Int)} {f : Bool} (h : RE K T te ρ f m) (hl : RO K T tl ρ ml) (hh : RO K T th ρ mh) :
    RE K T (tSl (rSlL K) te tl th) ρ true (slLW m ml mh) := fun Bs po φ σ H n st P p Q q =>
  h Bs po φ σ H n st _ p _ fun xs n1 v H1 fp pa a1 i1 g1 => hl Bs po φ σ H1 n1 (st.af a1) _ pa _ fun lo n2 H2 pb a2 => hh Bs po φ σ H2 n2 ((st.af a1).af a2) _ pb _ fun hi n3 H3 pc a3 => by
    have i3 := (i1.af g1.1 a2.fr).af g1.1 a3.fr
    obtain ⟨a, vs, f1, rfl, hT, hA, _⟩ := im_lst i3
    have := ima_pu hA
    subst this
    have hc := ima_cut (lo := lo) (hi := hi) hA
    have af := (a1.trans a2).trans a3
    refine ⟨a, vs, rfl, .inl (.inl hT), fun t nt => ?_⟩
    have s := same_new (Same.refl H3) nt (o := .lst (cutV vs lo hi))
    have st3 := ((st.af a1).af a2).af a3
    exact q _ n3 _ _ [t] pc (af.trans (Af.same s)) (.lst upd_same (hc.same s) rfl) (Fp.back af.fr (fp_new st3 ⟨List.nodup_cons.mpr ⟨List.not_mem_nil, List.nodup_nil⟩, fun x hx => by rw [List.mem_singleton.mp hx]; exact nt⟩))
theorem re_revT [Pu α] {te : TE} {m : M (List α)} {f : Bool} (h : RE K T te ρ f m) : RE K T (tRevT K te) ρ true (mapW List.reverse m) := fun Bs po φ σ H n st P p Q q =>
  h Bs po φ σ H n st _ p _ fun xs n1 v H1 fp pa a1 i1 g1 => by
    have := Pu.pu i1
    subst this
    obtain ⟨a, vs, rfl, hT, hA⟩ := im_tup i1
    refine ⟨a, vs, rfl, hT.q, fun t nt => ?_⟩
    have s := same_new (Same.refl H1) nt (o := .tup vs.reverse)
    refine q _ n1 _ _ [] pa (a1.trans (Af.same s)) (.tup upd_same ?_) Fp.nil
    refine ImA.same ?_ s
    have : ∀ {xs : List α} {vs : List V}, ImA K H1 vs (xs.map enc) [] → ImA K H1 vs.reverse (xs.reverse.map enc) [] := by
      intro xs
      induction xs with
      | nil => intro vs h; cases h; exact .nil
      | cons x xs ih =>
        intro vs h
        cases h with
        | cons a b q =>
          have e1 := ima_pu b
          have e2 := Pu.pu a
          subst e1 e2
          rw [List.reverse_cons, List.reverse_cons, List.map_append]
          exact (ih b).app (.cons a .nil rfl)
    exact this hA
/-! displays -/
def RAs (K : PySem.W.Frag) (T : List (Addr × Str)) (t : TA) (ρ : List Sl) {α : Type} [Enc α] (m : M (List α)) : Prop := ∀ (Bs : Addr → HO → Prop) (po : Option Addr) (φ : Nat → List Addr) (σ : L2.St) (H : Hp) (n : Nat), ST K T Bs po ρ φ σ H n → ∀ P : List α → Nat → Prop, m n P →
  ∀ Q : List V → Hp → Prop, (∀ (a : List α) (n' : Nat) (vs : List V) (H' : Hp), P a n' → Af K T po H n H' n' → ImA K H' vs (a.map enc) [] → Q vs H') → t σ H Q
theorem ras_nil : RAs K T tNil ρ (retW ([] : List α)) := fun Bs po φ σ H n st P p Q q => q [] n [] H p Af.refl .nil
theorem ras_cons [Pu α] {t : TE} {tr : TA} {m : M α} {ms : M (List α)} {f : Bool} (h : RE K T t ρ f m) (hs : RAs K T tr ρ ms) : RAs K T (tCons t tr) ρ (b2W m ms fun a as => retW (a :: as)) := fun Bs po φ σ H n st P p Q q =>
  h Bs po φ σ H n st _ p _ fun a n1 v H1 fp pa a1 i1 g1 => hs Bs po φ σ H1 n1 (st.af a1) _ pa _ fun as n2 vs H2 pb a2 i2 => by
    have i1' := i1.af g1.1 a2.fr
    have := Pu.pu i1'
    subst this
    exact q _ n2 _ H2 pb (a1.trans a2) (.cons i1' i2 rfl)
theorem re_lst {t : TA} {m : M (List α)} (h : RAs K T t ρ m) : RE K T (tLst t) ρ true (bindW m fun xs => reqW (xs.length ≤ sizeLine) (retW (⟨xs⟩ : Lst α))) := fun Bs po φ σ H n st P p Q q =>
  h Bs po φ σ H n st _ p _ fun a n1 vs H1 pa a1 i1 => by
    have hl := i1.len
    rw [List.length_map] at hl
    refine ⟨by rw [hl]; exact pa.1, fun t nt => ?_⟩
    have s := same_new (Same.refl H1) nt (o := .lst vs)
    exact q _ n1 _ _ [t] pa.2 (a1.trans (Af.same s)) (.lst upd_same (i1.same s) rfl) (Fp.back a1.fr (fp_new (st.af a1) ⟨List.nodup_cons.mpr ⟨List.not_mem_nil, List.nodup_nil⟩, fun x hx => by rw [List.mem_singleton.mp hx]; exact nt⟩))
theorem re_tupL {t : TA} {m : M (List α)} (h : RAs K T t ρ m) : RE K T (tTup t) ρ true (bindW m fun xs => reqW (xs.length ≤ sizeLine) (retW xs)) := fun Bs po φ σ H n st P p Q q =>
  h Bs po φ σ H n st _ p _ fun a n1 vs H1 pa a1 i1 => by
    have hl := i1.len
    rw [List.length_map] at hl
    refine ⟨by rw [hl]; exact pa.1, fun t nt => ?_⟩
    have s := same_new (Same.refl H1) nt (o := .tup vs)
    exact q _ n1 _ _ [] pa.2 (a1.trans (Af.same s)) (.tup upd_same (i1.same s)) Fp.nil
/-- two things of which each is new -/
theorem fp_two {H H1 : Hp} {po : Option Addr} {n n1 : Nat} {f1 f2 : List Addr} {v : V} {d : PyData} (a1 : Af K T po H n H1 n1) (i1 : Im K H1 v d f1) (g1 : Fp H po true f1) (g2 : Fp H1 po true f2) : Fp H po true (f1 ++ f2) := by
  have g2' := Fp.back a1.fr g2
  refine ⟨fun b hb => (List.mem_append.mp hb).elim (g1.1 b) (g2.1 b), fun _ => ⟨nodup_app (g1.2 rfl).1 (g2.2 rfl).1 fun x hx hy => ?_, fun b hb => (List.mem_append.mp hb).elim ((g1.2 rfl).2 b) ((g2'.2 rfl).2 b)⟩⟩
  obtain ⟨l, hl, hm⟩ := Im.mtb _ _ _ i1 x hx
  obtain ⟨ps, z⟩ := (g2.2 rfl).2 x hy _ hl
  exact hm.tbl ps z
theorem re_pair {ta tb : TE} {ma : M α} {mb : M β} (ha : RE K T ta ρ true ma) (hb : RE K T tb ρ true mb) : RE K T (tTup (tCons ta (tCons tb tNil))) ρ true (b2W ma mb fun a b => retW (a, b)) := fun Bs po φ σ H n st P p Q q =>
  ha Bs po φ σ H n st _ p _ fun a n1 v H1 fp pa a1 i1 g1 => hb Bs po φ σ H1 n1 (st.af a1) _ pa _ fun b n2 w H2 fq pb a2 i2 g2 => by
    refine ⟨by show 2 ≤ sizeLine; decide, fun t nt => ?_⟩
    have s := same_new (Same.refl H2) nt (o := .tup [v, w])
    have i1' := (i1.af g1.1 a2.fr).same s
    exact q _ n2 _ _ (fp ++ fq) pb ((a1.trans a2).trans (Af.same s)) (.tup upd_same (.cons i1' (.cons (i2.same s) .nil (List.append_nil _).symm) rfl)) (fp_two a1 i1 g1 g2)
def t3W {α β γ : Type} (ma : M α) (mb : M β) (mc : M γ) : M (T3 α β γ) := fun n P => ma n fun a n1 => mb n1 fun b n2 => mc n2 fun c n3 => P (⟨a, b, c⟩ : T3 α β γ) n3
theorem re_t3 {ta tb tc : TE} {ma : M α} {mb : M β} {mc : M γ} (ha : RE K T ta ρ true ma) (hb : RE K T tb ρ true mb) (hc : RE K T tc ρ true mc) : RE K T (tTup (tCons ta (tCons tb (tCons tc tNil)))) ρ true (t3W ma mb mc) := fun Bs po φ σ H n st P p Q q =>
  ha Bs po φ σ H n st _ p _ fun a n1 v H1 fp pa a1 i1 g1 => hb Bs po φ σ H1 n1 (st.af a1) _ pa _ fun b n2 w H2 fq pb a2 i2 g2 => hc Bs po φ σ H2 n2 ((st.af a1).af a2) _ pb _ fun c n3 u H3 fr pc a3 i3 g3 => by
    refine ⟨by show 3 ≤ sizeLine; decide, fun t nt => ?_⟩
    have s := same_new (Same.refl H3) nt (o := .tup [v, w, u])
    have i1' := ((i1.af g1.1 a2.fr).af g1.1 a3.fr).same s
    have i2' := (i2.af g2.1 a3.fr).same s
    have i3' := i3.same s
    exact q _ n3 _ _ _ pc (((a1.trans a2).trans a3).trans (Af.same s)) (.tup upd_same (.cons i1' (.cons i2' (.cons i3' .nil (List.append_nil _).symm) rfl) rfl)) (fp_two a1 i1 g1 (fp_two a2 i2 g2 g3))
/-! tests -/
theorem rt_val {t : TE} {m : M Bool} {f : Bool} (h : RE K T t ρ f m) : RT K T (tB t) ρ m := fun Bs po φ σ H n st P p Q q => h Bs po φ σ H n st _ p _ fun a n1 v H1 fp pa a1 i1 g1 => by
  cases i1
  exact ⟨_, rfl, q _ n1 H1 pa a1⟩
theorem rt_test {t : TE} {m : M Bool} {f : Bool} (h : RE K T t ρ f m) : RT K T (tTest t) ρ m := fun Bs po φ σ H n st P p Q q => h Bs po φ σ H n st _ p _ fun a n1 v H1 fp pa a1 i1 g1 => by
  cases i1
  exact ⟨_, rfl, q _ n1 H1 pa a1⟩
def andW (a b : M Bool) : M Bool := bindW a fun x => if x = true then b else retW false
def orW (a b : M Bool) : M Bool := bindW a fun x => if x = true then retW true else b
theorem rt_and {t u : TT} {a b : M Bool} (ha : RT K T t ρ a) (hb : RT K T u ρ b) : RT K T (tAnd t u) ρ (andW a b) := fun Bs po φ σ H n st P p Q q => ha Bs po φ σ H n st _ p _ fun x n1 H1 pa a1 => by
  cases x with
  | true => exact (if_pos rfl).mpr (hb Bs po φ σ H1 n1 (st.af a1) _ pa _ fun y n2 H2 pb a2 => q y n2 H2 pb (a1.trans a2))
  | false => exact (if_neg (by decide)).mpr (q false n1 H1 pa a1)
theorem rt_or {t u : TT} {a b : M Bool} (ha : RT K T t ρ a) (hb : RT K T u ρ b) : RT K T (tOr t u) ρ (orW a b) := fun Bs po φ σ H n st P p Q q => ha Bs po φ σ H n st _ p _ fun x n1 H1 pa a1 => by
  cases x with
  | false => exact (if_neg (by decide)).mpr (hb Bs po φ σ H1 n1 (st.af a1) _ pa _ fun y n2 H2 pb a2 => q y n2 H2 pb (a1.trans a2))
  | true => exact (if_pos rfl).mpr (q true n1 H1 pa a1)
theorem rt_not {t : TT} {a : M Bool} (ha : RT K T t ρ a) : RT K T (tNot t) ρ (mapW (fun b => !b) a) := fun Bs po φ σ H n st P p Q q => ha Bs po φ σ H n st _ p _ fun x n1 H1 pa a1 => q _ n1 H1 pa a1
theorem rt_yes : RT K T tYes ρ (retW true) := fun Bs po φ σ H n st P p Q q => q true n H p Af.refl
/-! truths as values -/
theorem re_and {ta tb : TE} {a b : M Bool} {f1 f2 : Bool} (ha : RE K T ta ρ f1 a) (hb : RE K T tb ρ f2 b) : RE K T (tAndV ta tb) ρ true (andW a b) := fun Bs po φ σ H n st P p Q q => ha Bs po φ σ H n st _ p _ fun x n1 v H1 fp pa a1 i1 g1 => by
  cases i1
  refine ⟨x, rfl, ?_⟩
  cases x with
  | true => exact (if_pos rfl).mpr (hb Bs po φ σ H1 n1 (st.af a1) _ pa _ fun y n2 w H2 fq pb a2 i2 g2 => q y n2 w H2 fq pb (a1.trans a2) i2 (by rw [Pu.pu i2]; exact Fp.nil))
  | false => exact (if_neg (by decide)).mpr (q false n1 _ H1 [] pa a1 (.bl _) Fp.nil)
theorem re_or {ta tb : TE} {a b : M Bool} {f1 f2 : Bool} (ha : RE K T ta ρ f1 a) (hb : RE K T tb ρ f2 b) : RE K T (tOrV ta tb) ρ true (orW a b) := fun Bs po φ σ H n st P p Q q => ha Bs po φ σ H n st _ p _ fun x n1 v H1 fp pa a1 i1 g1 => by
  cases i1
  refine ⟨x, rfl, ?_⟩
  cases x with
  | false => exact (if_neg (by decide)).mpr (hb Bs po φ σ H1 n1 (st.af a1) _ pa _ fun y n2 w H2 fq pb a2 i2 g2 => q y n2 w H2 fq pb (a1.trans a2) i2 (by rw [Pu.pu i2]; exact Fp.nil))
  | true => exact (if_pos rfl).mpr (q true n1 _ H1 [] pa a1 (.bl _) Fp.nil)
theorem re_not {t : TT} {a : M Bool} (ha : RT K T t ρ a) : RE K T (fun σ H Q => t σ H fun c H1 => Q (.bl (!c)) H1) ρ true (mapW (fun b => !b) a) := fun Bs po φ σ H n st P p Q q => ha Bs po φ σ H n st _ p _ fun x n1 H1 pa a1 => q _ n1 _ H1 [] pa a1 (.bl _) Fp.nil
theorem re_notV {t : TE} {a : M Bool} {f : Bool} (ha : RE K T t ρ f a) : RE K T (tNotV t) ρ true (mapW (fun b => !b) a) := fun Bs po φ σ H n st P p Q q => ha Bs po φ σ H n st _ p _ fun x n1 v H1 fp pa a1 i1 g1 => by
  cases i1
  exact ⟨_, rfl, q _ n1 _ H1 [] pa a1 (.bl _) Fp.nil⟩
theorem re_if {t : TT} {ta tb : TE} {c : M Bool} {a b : M α} {f : Bool} (hc : RT K T t ρ c) (ha : RE K T ta ρ f a) (hb : RE K T tb ρ f b) : RE K T (tIf t ta tb) ρ f (bindW c fun x => if x = true then a else b) := fun Bs po φ σ H n st P p Q q => hc Bs po φ σ H n st _ p _ fun x n1 H1 pa a1 => by
  cases x with
  | true => exact (if_pos rfl).mpr (ha Bs po φ σ H1 n1 (st.af a1) _ pa _ fun y n2 w H2 fq pb a2 i2 g2 => q y n2 w H2 fq pb (a1.trans a2) i2 (Fp.back a1.fr g2))
  | false => exact (if_neg (by decide)).mpr (hb Bs po φ σ H1 n1 (st.af a1) _ pa _ fun y n2 w H2 fq pb a2 i2 g2 => q y n2 w H2 fq pb (a1.trans a2) i2 (Fp.back a1.fr g2))
end
end Bf
namespace Bf
open PySem PySem.Spec PyProof.Rows L2 LamX NdefX
/-! ### slots forgotten -/
def wipeR (ρ : List Sl) : List Nat → List Sl
  | [] => ρ
  | v :: vs => (wipeR ρ vs).set v .any
theorem wipeR_len (ρ : List Sl) : ∀ vs, (wipeR ρ vs).length = ρ.length
  | [] => rfl
  | v :: vs => by unfold wipeR; rw [List.length_set, wipeR_len ρ vs]
theorem wipeR_get {ρ : List Sl} {i : Nat} {s : Sl} : ∀ {vs : List Nat}, (wipeR ρ vs)[i]? = some s → s = .any ∨ (ρ[i]? = some s ∧ i ∉ vs)
  | [], h => .inr ⟨h, List.not_mem_nil⟩
  | v :: vs, h => by
    unfold wipeR at h
    rw [List.getElem?_set] at h
    by_cases e : v = i
    · rw [if_pos e] at h
      split at h
      · exact .inl (Option.some.inj h).symm
      · cases h
    · rw [if_neg e] at h
      rcases wipeR_get h with z | ⟨z1, z2⟩
      · exact .inl z
      · exact .inr ⟨z1, fun m => (List.mem_cons.mp m).elim (fun q => e q.symm) z2⟩
theorem wipe_set {σ : L2.St} {i : Nat} {x : Option V} : ∀ {vs : List Nat}, i ∈ vs → wipe (σ.set i x) vs = wipe σ vs
  | [], h => absurd h List.not_mem_nil
  | v :: vs, h => by
    show (wipe (σ.set i x) vs).set v none = (wipe σ vs).set v none
    by_cases hm : i ∈ vs
    · rw [wipe_set hm]
    · have e : i = v := (List.mem_cons.mp h).elim id fun q => absurd q hm
      subst e
      have : ∀ (ws : List Nat), i ∉ ws → wipe (σ.set i x) ws = (wipe σ ws).set i x := by
        intro ws
        induction ws with
        | nil => intro _; rfl
        | cons w ws ih =>
          intro hw
          have h1 : w ≠ i := fun e => hw (by rw [e]; exact List.mem_cons_self)
          show (wipe (σ.set i x) ws).set w none = ((wipe σ ws).set w none).set i x
          rw [ih fun m => hw (List.mem_cons_of_mem _ m), List.set_comm _ _ (Ne.symm h1)]
      rw [this vs hm, List.set_set]
theorem wipe_wipe {σ : L2.St} (vs : List Nat) : wipe (wipe σ vs) vs = wipe σ vs := by
  have : ∀ ws us : List Nat, (∀ w ∈ ws, w ∈ us) → wipe (wipe σ ws) us = wipe σ us := by
    intro ws us
    induction ws with
    | nil => intro _; rfl
    | cons w ws ih =>
      intro h
      show wipe ((wipe σ ws).set w none) us = wipe σ us
      rw [wipe_set (h w List.mem_cons_self), ih fun x hx => h x (List.mem_cons_of_mem _ hx)]
  exact this vs vs fun w h => h
section
variable {K : PySem.W.Frag} {T : List (Addr × Str)} {Bs : Addr → HO → Prop} {po : Option Addr} {ρ : List Sl} {φ : Nat → List Addr} {σ : L2.St} {H H' : Hp} {n n' : Nat}
theorem ST.wipe (h : ST K T Bs po ρ φ σ H n) (vs : List Nat) : ST K T Bs po (wipeR ρ vs) φ (L2.wipe σ vs) H n where
  tabs := h.tabs
  base := h.base
  pot := h.pot
  len := by rw [wipe_length, wipeR_len, h.len]
  sl := fun i s e => by
    rcases wipeR_get e with rfl | ⟨e, hi⟩
    · trivial
    · rw [wipe_out hi]
      exact h.sl i s e
  dis := fun i j d e hij ei ej => by
    rcases wipeR_get ei with z | ⟨ei, _⟩
    · cases z
    · rcases wipeR_get ej with z | ⟨ej, _⟩
      · cases z
      · exact h.dis i j d e hij ei ej
/-- set to something that no other slot holds -/
theorem ST.put (h : ST K T Bs po ρ φ σ H n) {i : Nat} (hi : i < ρ.length) {v : V} {d : PyData} {fp : List Addr} (hv : Im K H v d fp) (hn : fp.Nodup) (hp : ∀ b ∈ fp, po ≠ some b ∧ (∀ o, ¬ Bs b o) ∧ ∀ j e, j ≠ i → ρ[j]? = some (.own e) → b ∉ φ j) :
    ST K T Bs po (ρ.set i (.own d)) (fun j => if j = i then fp else φ j) (σ.set i (some v)) H n := by
  refine ⟨h.tabs, h.base, h.pot, by rw [List.length_set, List.length_set, h.len], fun j s e => ?_, fun j k d1 e1 hjk ej ek => ?_⟩
  · rw [List.getElem?_set] at e ⊢
    by_cases hij : i = j
    · subst hij
      rw [if_pos rfl, if_pos hi] at e
      obtain rfl : Sl.own d = s := Option.some.inj e
      rw [if_pos rfl, if_pos (by rw [h.len]; exact hi)]
      show SlOk K Bs po H _ _ (if i = i then fp else φ i)
      rw [if_pos rfl]
      exact ⟨v, rfl, hv, hn, fun b hb => ⟨(hp b hb).1, (hp b hb).2.1⟩⟩
    · rw [if_neg hij] at e ⊢
      show SlOk K Bs po H _ _ (if j = i then fp else φ j)
      rw [if_neg (Ne.symm hij)]
      exact h.sl j s e
  · show ∀ b ∈ (if j = i then fp else φ j), b ∉ (if k = i then fp else φ k)
    rw [List.getElem?_set] at ej ek
    by_cases hji : i = j
    · subst hji
      rw [if_pos rfl]
      rw [if_neg hjk] at ek
      rw [if_neg (Ne.symm hjk)]
      exact fun b hb => (hp b hb).2.2 k e1 (Ne.symm hjk) ek
    · rw [if_neg hji] at ej
      rw [if_neg (Ne.symm hji)]
      by_cases hki : i = k
      · subst hki
        rw [if_pos rfl]
        exact fun b hb z => (hp b z).2.2 j d1 (Ne.symm hji) ej hb
      · rw [if_neg hki] at ek
        rw [if_neg (Ne.symm hki)]
        exact h.dis j k d1 e1 hjk ej ek
theorem ST.put0 (h : ST K T Bs po ρ φ σ H n) {i : Nat} (hi : i < ρ.length) {v : V} {d : PyData} (hv : Im K H v d []) : ST K T Bs po (ρ.set i (.own d)) (fun j => if j = i then [] else φ j) (σ.set i (some v)) H n :=
  h.put hi hv List.nodup_nil fun b hb => absurd hb List.not_mem_nil
theorem ST.fresh_new (h : ST K T Bs po ρ φ σ H n) {fp : List Addr} (f : Fp H po true fp) (i : Nat) : fp.Nodup ∧ ∀ b ∈ fp, po ≠ some b ∧ (∀ o, ¬ Bs b o) ∧ ∀ j e, j ≠ i → ρ[j]? = some (.own e) → b ∉ φ j :=
  ⟨(f.2 rfl).1, fun b hb => ⟨f.1 b hb, h.fresh_bs ((f.2 rfl).2 b hb), fun j e _ ej => h.fresh_own ((f.2 rfl).2 b hb) ej⟩⟩
end
section
variable {K : PySem.W.Frag} {T : List (Addr × Str)} {ρ : List Sl}
variable {α β γ δ : Type} [Enc α] [Enc β] [Enc γ] [Enc δ]
/-! ### targets -/
/-- D isn't in what the slots hold -/
def Out (D : Addr) (ρ : List Sl) (φ : Nat → List Addr) : Prop := ∀ i d, (ρ[i]? = some (.own d) ∨ ρ[i]? = some (.bor d)) → D ∉ φ i
theorem Out.put {D : Addr} {ρ : List Sl} {φ : Nat → List Addr} {i : Nat} {d : PyData} {fp : List Addr} (h : Out D ρ φ) (hf : D ∉ fp) : Out D (ρ.set i (.own d)) (fun j => if j = i then fp else φ j) := fun j e ej => by
  show D ∉ (if j = i then fp else φ j)
  by_cases hji : j = i
  · rw [if_pos hji]; exact hf
  · rw [if_neg hji]
    rw [List.getElem?_set, if_neg (Ne.symm hji)] at ej
    exact h j e ej
theorem Out.new {K : PySem.W.Frag} {T : List (Addr × Str)} {Bs : Addr → HO → Prop} {po : Option Addr} {ρ : List Sl} {φ : Nat → List Addr} {σ : L2.St} {H : Hp} {n : Nat} (st : ST K T Bs po ρ φ σ H n) {D : Addr} (nD : H D = none) : Out D ρ φ := fun i d e z => by
  rcases e with e | e
  · obtain ⟨v, h1, h2, h3⟩ := st.sl i _ e
    obtain ⟨o, ho, _⟩ := Im.mtb _ _ _ h2 D z
    rw [nD] at ho; cases ho
  · obtain ⟨v, h1, h2, h3⟩ := st.sl i _ e
    obtain ⟨o, ho, _⟩ := Im.mtb _ _ _ h2 D z
    rw [nD] at ho; cases ho
theorem Out.wipe {D : Addr} {ρ : List Sl} {φ : Nat → List Addr} (h : Out D ρ φ) (vs : List Nat) : Out D (wipeR ρ vs) φ := fun i d e => by
  rcases e with e | e
  · rcases wipeR_get e with z | ⟨z, _⟩
    · cases z
    · exact h i d (.inl z)
  · rcases wipeR_get e with z | ⟨z, _⟩
    · cases z
    · exact h i d (.inr z)
def RG (K : PySem.W.Frag) (T : List (Addr × Str)) (ts : List Nat) (g : TG) {α : Type} [Enc α] (a : α) (ρ ρ' : List Sl) : Prop := ∀ (Bs : Addr → HO → Prop) (po : Option Addr) (φ : Nat → List Addr) (σ : L2.St) (H : Hp) (n : Nat), ST K T Bs po ρ φ σ H n → ∀ v fp, Im K H v (enc a) fp → fp.Nodup →
  (∀ b ∈ fp, po ≠ some b ∧ (∀ o, ¬ Bs b o) ∧ ∀ j e, ρ[j]? = some (.own e) → b ∉ φ j) → ∀ Q : L2.St → Hp → Prop, (∀ σ' φ', ST K T Bs po ρ' φ' σ' H n → (∀ js : List Nat, (∀ t ∈ ts, t ∈ js) → wipe σ' js = wipe σ js) → (∀ D, Out D ρ φ → D ∉ fp → Out D ρ' φ') → Q σ' H) → g v σ H Q
theorem rg_name {i : Nat} {a : α} {ρ' : List Sl} (hi : i < ρ.length) (e : ρ.set i (.own (enc a)) = ρ') : RG K T [i] (gName i) a ρ ρ' := fun Bs po φ σ H n st v fp im nd hp Q q => by
  subst e
  exact q _ _ (st.put hi im nd fun b hb => ⟨(hp b hb).1, (hp b hb).2.1, fun j e _ ej => (hp b hb).2.2 j e ej⟩) (fun js h => wipe_set (h i List.mem_cons_self)) fun D o f => o.put f
/-- two targets -/
theorem rg_two {i j : Nat} {x : α × β} {ρ1 ρ' : List Sl} (hi : i < ρ.length) (hj : j < ρ.length) (hij : i ≠ j) (e : ρ.set i (.own (enc x.1)) = ρ1) (e2 : ρ1.set j (.own (enc x.2)) = ρ') : RG K T [i, j] (gTup K 2 (gCons (gName i) (gCons (gName j) gNil))) x ρ ρ' := fun Bs po φ σ H n st v fp im nd hp Q q => by
  cases im with
  | tup hT hA =>
    obtain ⟨v1, v2, f1, f2, rfl, h1, h2, rfl⟩ := ima2 hA
    obtain ⟨n1, n2, n3⟩ := List.nodup_append.mp nd
    have st1 := st.put hi h1 n1 fun b hb => ⟨(hp b (List.mem_append_left _ hb)).1, (hp b (List.mem_append_left _ hb)).2.1, fun j e _ ej => (hp b (List.mem_append_left _ hb)).2.2 j e ej⟩
    have st2 := st1.put (i := j) (by rw [List.length_set]; exact hj) h2 n2 fun b hb => ⟨(hp b (List.mem_append_right _ hb)).1, (hp b (List.mem_append_right _ hb)).2.1, fun k d hk ek => by
      show b ∉ (if k = i then f1 else φ k)
      by_cases hki : k = i
      · rw [if_pos hki]
        exact fun z => n3 b z b hb rfl
      · rw [if_neg hki]
        rw [List.getElem?_set, if_neg (Ne.symm hki)] at ek
        exact (hp b (List.mem_append_right _ hb)).2.2 k d ek⟩
    rw [e, e2] at st2
    refine ⟨_, _, rfl, hT.q, rfl, _, _, rfl, _, _, rfl, rfl, q _ _ st2 (fun js h => ?_) fun D o f => ?_⟩
    · rw [wipe_set (h j (List.mem_cons_of_mem _ List.mem_cons_self)), wipe_set (h i List.mem_cons_self)]
    · rw [← e2, ← e]
      exact (o.put fun z => f (List.mem_append_left _ z)).put fun z => f (List.mem_append_right _ z)
theorem rg_three {i j k : Nat} {x : T3 α β γ} {ρ1 ρ2 ρ' : List Sl} (hi : i < ρ.length) (hj : j < ρ.length) (hk : k < ρ.length) (hij : i ≠ j) (hik : i ≠ k) (hjk : j ≠ k) (e : ρ.set i (.own (enc x.a)) = ρ1) (e2 : ρ1.set j (.own (enc x.b)) = ρ2) (e3 : ρ2.set k (.own (enc x.c)) = ρ') :
    RG K T [i, j, k] (gTup K 3 (gCons (gName i) (gCons (gName j) (gCons (gName k) gNil)))) x ρ ρ' := fun Bs po φ σ H n st v fp im nd hp Q q => by
  cases im with
  | tup hT hA =>
    obtain ⟨v1, v2, v3, f1, f2, f3, rfl, h1, h2, h3, rfl⟩ := ima3 hA
    obtain ⟨n1, n23, n4⟩ := List.nodup_append.mp nd
    obtain ⟨n2, n3, n5⟩ := List.nodup_append.mp n23
    have st1 := st.put hi h1 n1 fun b hb => ⟨(hp b (List.mem_append_left _ hb)).1, (hp b (List.mem_append_left _ hb)).2.1, fun j e _ ej => (hp b (List.mem_append_left _ hb)).2.2 j e ej⟩
    have st2 := st1.put (i := j) (by rw [List.length_set]; exact hj) h2 n2 fun b hb => by
      have hb2 : b ∈ f1 ++ (f2 ++ f3) := List.mem_append_right _ (List.mem_append_left _ hb)
      refine ⟨(hp b hb2).1, (hp b hb2).2.1, fun k d hk ek => ?_⟩
      show b ∉ (if k = i then f1 else φ k)
      by_cases hki : k = i
      · rw [if_pos hki]
        exact fun z => n4 b z b (List.mem_append_left _ hb) rfl
      · rw [if_neg hki]
        rw [List.getElem?_set, if_neg (Ne.symm hki)] at ek
        exact (hp b hb2).2.2 k d ek
    have st3 := st2.put (i := k) (by rw [List.length_set, List.length_set]; exact hk) h3 n3 fun b hb => by
      have hb2 : b ∈ f1 ++ (f2 ++ f3) := List.mem_append_right _ (List.mem_append_right _ hb)
      refine ⟨(hp b hb2).1, (hp b hb2).2.1, fun l d hl el => ?_⟩
      show b ∉ (if l = j then f2 else if l = i then f1 else φ l)
      by_cases hlj : l = j
      · rw [if_pos hlj]
        exact fun z => n5 b z b hb rfl
      · rw [if_neg hlj]
        by_cases hli : l = i
        · rw [if_pos hli]
          exact fun z => n4 b z b (List.mem_append_right _ hb) rfl
        · rw [if_neg hli]
          rw [List.getElem?_set, if_neg (Ne.symm hlj), List.getElem?_set, if_neg (Ne.symm hli)] at el
          exact (hp b hb2).2.2 l d el
    rw [e, e2, e3] at st3
    refine ⟨_, _, rfl, hT.q, rfl, _, _, rfl, _, _, rfl, _, _, rfl, rfl, q _ _ st3 (fun js h => ?_) fun D o f => ?_⟩
    · rw [wipe_set (h k (by simp)), wipe_set (h j (by simp)), wipe_set (h i (by simp))]
    · rw [← e3, ← e2, ← e]
      exact ((o.put fun z => f (List.mem_append_left _ z)).put fun z => f (List.mem_append_right _ (List.mem_append_left _ z))).put fun z => f (List.mem_append_right _ (List.mem_append_right _ z))
/-! ### what is gone through -/
structure ItOk (K : PySem.W.Frag) (J : It) (H1 : Hp) {α : Type} [Enc α] (xs : List α) (fi : List Addr) : Prop where
  ex : ∃ (G : Hp → Prop) (Y : Nat → Hp → V → Hp → Prop), Walk J xs.length G Y ∧ G H1 ∧ (∀ H H' : Hp, (∀ b ∈ fi, ∀ l, H b = some (.lst l) → H' b = some (.lst l)) → (∀ b l, TupR H b l → TupR H' b l) → (∀ b ∈ fi, ∃ l, H1 b = some (.lst l) ∧ H b = some (.lst l)) → G H → G H') ∧
    ∀ i H x H', i < xs.length → G H → Y i H x H' → ∃ a, xs[i]? = some a ∧ Same H H' ∧ Im K H' x (enc a) []
  lst : ∀ b ∈ fi, ∃ l, H1 b = some (.lst l)
def RI (K : PySem.W.Frag) (T : List (Addr × Str)) (wi : TI) (ρ : List Sl) {α : Type} [Enc α] (m : M (List α)) : Prop := ∀ (Bs : Addr → HO → Prop) (po : Option Addr) (φ : Nat → List Addr) (σ : L2.St) (H : Hp) (n : Nat), ST K T Bs po ρ φ σ H n → ∀ P : List α → Nat → Prop, m n P →
  ∀ R : It → Hp → Prop, (∀ (xs : List α) (n' : Nat) (J : It) (H1 : Hp) (fi : List Addr), P xs n' → Af K T po H n H1 n' → ItOk K J H1 xs fi → (∀ b ∈ fi, po ≠ some b) → (∀ b ∈ fi, (∃ o, Bs b o) ∨ Fsh H b) → R J H1) → wi σ H R
theorem ri_range {t : TE} {m : M Nat} {f : Bool} (h : RE K T t ρ f m) : RI K T (iRng1 (tCons t tNil)) ρ (bindW m fun k => reqW (k < 4611686018427387904) (retW (List.range k))) := fun Bs po φ σ H n st P p R q => h Bs po φ σ H n st _ p _ fun k n1 v H1 fp pa a1 i1 g1 => by
  cases i1
  refine ⟨(k : Int), rfl, by omega, by have := pa.1; omega, ?_⟩
  refine q _ n1 _ H1 [] pa.2 a1 ⟨⟨fun _ => True, YFn fun i => .int (0 + i), ?_, trivial, fun _ _ _ _ _ _ => trivial, fun i H x H' hi _ y => ?_⟩, fun b hb => absurd hb List.not_mem_nil⟩ (fun b hb => absurd hb List.not_mem_nil) fun b hb => absurd hb List.not_mem_nil
  · rw [List.length_range, Int.toNat_natCast]
    exact walk_range
  · obtain ⟨rfl, rfl⟩ := y
    rw [List.length_range] at hi
    refine ⟨i, List.getElem?_range hi, Same.refl _, ?_⟩
    show Im K _ (.int (0 + (i : Int))) (.int (i : Int)) []
    rw [Int.zero_add]
    exact .int _
theorem ri_rangeZ {t : TE} {m : M Int} {f : Bool} (h : RE K T t ρ f m) : RI K T (iRng1 (tCons t tNil)) ρ (bindW m fun k => reqW (-(2 ^ 62) ≤ k ∧ k < 2 ^ 62) (retW (List.range k.toNat))) := fun Bs po φ σ H n st P p R q => h Bs po φ σ H n st _ p _ fun k n1 v H1 fp pa a1 i1 g1 => by
  cases i1
  refine ⟨k, rfl, pa.1.1, pa.1.2, ?_⟩
  refine q _ n1 _ H1 [] pa.2 a1 ⟨⟨fun _ => True, YFn fun i => .int (0 + i), ?_, trivial, fun _ _ _ _ _ _ => trivial, fun i H x H' hi _ y => ?_⟩, fun b hb => absurd hb List.not_mem_nil⟩ (fun b hb => absurd hb List.not_mem_nil) fun b hb => absurd hb List.not_mem_nil
  · rw [List.length_range]
    exact walk_range
  · obtain ⟨rfl, rfl⟩ := y
    rw [List.length_range] at hi
    refine ⟨i, List.getElem?_range hi, Same.refl _, ?_⟩
    show Im K _ (.int (0 + (i : Int))) (.int (i : Int)) []
    rw [Int.zero_add]
    exact .int _
def rng2 (a b : Nat) : List Nat := (List.range (b - a)).map (a + ·)
theorem ri_range2 {t u : TE} {m m2 : M Nat} {f f2 : Bool} (h : RE K T t ρ f m) (h2 : RE K T u ρ f2 m2) : RI K T (iRng2 (tCons t (tCons u tNil))) ρ (b2W m m2 fun a b => reqW (a < 4611686018427387904 ∧ b < 4611686018427387904) (retW (rng2 a b))) := fun Bs po φ σ H n st P p R q => h Bs po φ σ H n st _ p _ fun a n1 v H1 fp pa a1 i1 g1 =>
  h2 Bs po φ σ H1 n1 (st.af a1) _ pa _ fun b n2 w H2 fq pb a2 i2 g2 => by
  cases i1
  cases i2
  have h1 := pb.1.1
  have h2 := pb.1.2
  refine ⟨(a : Int), (b : Int), rfl, ⟨by omega, by omega, by omega, by omega⟩, ?_⟩
  have e : ((b : Int) - (a : Int)).toNat = b - a := by omega
  rw [e]
  refine q _ n2 _ H2 [] pb.2 (a1.trans a2) ⟨⟨fun _ => True, YFn fun i => .int ((a : Int) + i), ?_, trivial, fun _ _ _ _ _ _ => trivial, fun i H x H' hi _ y => ?_⟩, fun b hb => absurd hb List.not_mem_nil⟩ (fun b hb => absurd hb List.not_mem_nil) fun b hb => absurd hb List.not_mem_nil
  · unfold rng2
    rw [List.length_map, List.length_range]
    exact walk_range
  · obtain ⟨rfl, rfl⟩ := y
    unfold rng2 at hi ⊢
    rw [List.length_map, List.length_range] at hi
    refine ⟨a + i, by rw [List.getElem?_map, List.getElem?_range hi]; rfl, Same.refl _, ?_⟩
    show Im K _ (.int ((a : Int) + (i : Int))) (.int ((a + i : Nat) : Int)) []
    rw [show (a : Int) + (i : Int) = ((a + i : Nat) : Int) by omega]
    exact .int _
theorem yat_im [Pu α] {xs : List α} {vs : List V} {fp : List Addr} {H : Hp} {i : Nat} {x : V} (hA : ImA K H vs (xs.map enc) fp) (hi : i < xs.length) (e : vs[i]? = some x) : ∃ a, xs[i]? = some a ∧ Im K H x (enc a) [] := by
  obtain ⟨v, fq, h1, h2, _⟩ := hA.get (i := i) (d := enc xs[i]) (by rw [List.getElem?_map, List.getElem?_eq_getElem hi]; rfl)
  have : v = x := Option.some.inj (h1.symm.trans e)
  subst this
  have := Pu.pu h2
  subst this
  exact ⟨_, List.getElem?_eq_getElem hi, h2⟩
/-- items that no list is in stand whatever else is done, as long as tuples stay -/
theorem ima_stay [Pu α] {H H' : Hp} {xs : List α} {vs : List V} {fp : List Addr} (hA : ImA K H vs (xs.map enc) fp) (ht : ∀ b l, TupR H b l → TupR H' b l) : ImA K H' vs (xs.map enc) fp := ImA.stab ht _ _ _ hA fun b hb => by
  rw [ima_pu hA] at hb
  exact absurd hb List.not_mem_nil
theorem ri_tup [Pu α] {t : TE} {m : M (List α)} {f : Bool} (h : RE K T t ρ f m) : RI K T (iTup K t) ρ m := fun Bs po φ σ H n st P p R q => h Bs po φ σ H n st _ p _ fun xs n1 v H1 fp pa a1 i1 g1 => by
  obtain ⟨a, vs, rfl, hT, hA⟩ := im_tup i1
  have hl := hA.len
  rw [List.length_map] at hl
  refine ⟨a, rfl, ⟨_, hT.q⟩, q xs n1 _ H1 [] pa a1 ⟨⟨fun H => TupR H a vs ∧ ImA K H vs (xs.map enc) fp, fun i H x H' => YAt vs i H x H', ?_, ⟨hT, hA⟩, fun H H' _ ht _ g => ⟨ht _ _ g.1, ima_stay g.2 ht⟩, fun i H x H' hi g y => ?_⟩, fun b hb => absurd hb List.not_mem_nil⟩ (fun b hb => absurd hb List.not_mem_nil) fun b hb => absurd hb List.not_mem_nil⟩
  · rw [← hl]
    exact walk_tup.mono (fun H g => g.1.q) fun i H x H' _ _ y => y
  · obtain ⟨rfl, e⟩ := y
    obtain ⟨a, h1, h2⟩ := yat_im g.2 hi e
    exact ⟨a, h1, Same.refl _, h2⟩
theorem lst_fi {H : Hp} {t : Addr} {l : List V} {po : Option Addr} {fq : List Addr} {Bs : Addr → HO → Prop} : True := trivial
theorem ri_lst [Pu α] {t : TE} {m : M (Lst α)} (h : RE K T t ρ true m) : RI K T (iList K t) ρ (mapW Lst.l m) := fun Bs po φ σ H n st P p R q => h Bs po φ σ H n st _ p _ fun xs n1 v H1 fp pa a1 i1 g1 => by
  obtain ⟨a, vs, fq, rfl, hT, hA, e⟩ := im_lst i1
  have hl := hA.len
  have := ima_pu hA
  subst this e
  rw [List.length_map] at hl
  refine ⟨a, rfl, ⟨_, .inl (.inl hT)⟩, q xs.l n1 _ H1 [a] pa a1 ⟨⟨fun H => H a = some (.lst vs) ∧ ImA K H vs (xs.l.map enc) [], fun i H x H' => YAt vs i H x H', ?_, ⟨hT, hA⟩, fun H H' hl' ht _ g => ⟨hl' a List.mem_cons_self _ g.1, ima_stay g.2 ht⟩, fun i H x H' hi g y => ?_⟩, fun b hb => by rw [List.mem_singleton.mp hb]; exact ⟨_, hT⟩⟩ (fun b hb => g1.1 b hb) fun b hb => .inr ((g1.2 rfl).2 b hb)⟩
  · rw [← hl]
    exact walk_list.mono (fun H g => .inl (.inl g.1)) fun i H x H' _ _ y => y
  · obtain ⟨rfl, e⟩ := y
    obtain ⟨a, h1, h2⟩ := yat_im g.2 hi e
    exact ⟨a, h1, Same.refl _, h2⟩
/-- through a list that a slot holds, to be read only -/
theorem ri_bor [Pu α] {i : Nat} {xs : Lst α} (hi : ρ[i]? = some (.bor (enc xs))) : RI K T (iList K (tVar i)) ρ (retW xs.l) := fun Bs po φ σ H n st P p R q => by
  obtain ⟨v, h1, h2, h3⟩ := st.sl i _ hi
  obtain ⟨a, vs, fq, rfl, hT, hA, e⟩ := im_lst h2
  have hl := hA.len
  have := ima_pu hA
  subst this
  rw [List.length_map] at hl
  have ha : a ∈ φ i := by rw [e]; exact List.mem_cons_self
  refine ⟨_, h1, a, rfl, ⟨_, .inl (.inl hT)⟩, q xs.l n _ H [a] p Af.refl ⟨⟨fun H => H a = some (.lst vs) ∧ ImA K H vs (xs.l.map enc) [], fun i H x H' => YAt vs i H x H', ?_, ⟨hT, hA⟩, fun H H' hl' ht _ g => ⟨hl' a List.mem_cons_self _ g.1, ima_stay g.2 ht⟩, fun i H x H' hi g y => ?_⟩, fun b hb => by rw [List.mem_singleton.mp hb]; exact ⟨_, hT⟩⟩ (fun b hb => by rw [List.mem_singleton.mp hb]; exact (h3 a ha).1) fun b hb => .inl (by rw [List.mem_singleton.mp hb]; exact (h3 a ha).2)⟩
  · rw [← hl]
    exact walk_list.mono (fun H g => .inl (.inl g.1)) fun i H x H' _ _ y => y
  · obtain ⟨rfl, e⟩ := y
    obtain ⟨a, h1, h2⟩ := yat_im g.2 hi e
    exact ⟨a, h1, Same.refl _, h2⟩
theorem getElem_rev {α : Type} {xs : List α} {i : Nat} (hi : i < xs.length) : xs.reverse[i]? = xs[xs.length - 1 - i]? := List.getElem?_reverse hi
theorem ri_revT [Pu α] {t : TE} {m : M (List α)} {f : Bool} (h : RE K T t ρ f m) : RI K T (_root_.RT.iRevA K t) ρ (mapW List.reverse m) := fun Bs po φ σ H n st P p R q => h Bs po φ σ H n st _ p _ fun xs n1 v H1 fp pa a1 i1 g1 => by
  obtain ⟨a, vs, rfl, hT, hA⟩ := im_tup i1
  have hl := hA.len
  rw [List.length_map] at hl
  refine ⟨a, vs, rfl, .inr ⟨hT.q, q xs.reverse n1 _ H1 [] pa a1 ⟨⟨fun H => TupR H a vs ∧ ImA K H vs (xs.map enc) fp, fun i H x H' => H' = H ∧ vs[vs.length - 1 - i]? = some x, ?_, ⟨hT, hA⟩, fun H H' _ ht _ g => ⟨ht _ _ g.1, ima_stay g.2 ht⟩, fun i H x H' hi g y => ?_⟩, fun b hb => absurd hb List.not_mem_nil⟩ (fun b hb => absurd hb List.not_mem_nil) fun b hb => absurd hb List.not_mem_nil⟩⟩
  · rw [List.length_reverse, ← hl]
    exact walk_revT.mono (fun H g => g.1.q) fun i H x H' _ _ y => y
  · obtain ⟨rfl, e⟩ := y
    rw [List.length_reverse] at hi
    rw [hl] at e
    obtain ⟨a, h1, h2⟩ := yat_im g.2 (by omega) e
    exact ⟨a, by rw [getElem_rev hi]; exact h1, Same.refl _, h2⟩
theorem pair_im {H H' : Hp} {Tp : Addr} {v w : V} {a : α} {b : β} (nT : H Tp = none) (h1 : Im K H v (enc a) []) (h2 : Im K H w (enc b) []) : Same H (upd H Tp (.tup [v, w])) ∧ Im K (upd H Tp (.tup [v, w])) (.ref Tp) (enc (a, b)) [] := by
  have s := same_new (Same.refl H) nT (o := .tup [v, w])
  exact ⟨s, .tup upd_same (.cons (h1.same s) (.cons (h2.same s) .nil rfl) rfl)⟩
theorem ri_zipT [Pu α] [Pu β] {t u : TE} {m : M (List α)} {m2 : M (List β)} {f f2 : Bool} (h : RE K T t ρ f m) (h2 : RE K T u ρ f2 m2) : RI K T (_root_.RZ.iZipA K (tCons t (tCons u tNil))) ρ (b2W m m2 fun xs ys => retW (xs.zip ys)) := fun Bs po φ σ H n st P p R q => h Bs po φ σ H n st _ p _ fun xs n1 v H1 fp pa a1 i1 g1 =>
  h2 Bs po φ σ H1 n1 (st.af a1) _ pa _ fun ys n2 w H2 fq pb a2 i2 g2 => by
  have i1 := i1.af g1.1 a2.fr
  obtain ⟨a, vs, rfl, hT, hA⟩ := im_tup i1
  obtain ⟨b, ws, rfl, hT2, hA2⟩ := im_tup i2
  have hl := hA.len
  have hl2 := hA2.len
  rw [List.length_map] at hl hl2
  refine ⟨a, b, vs, ws, rfl, .inr ⟨hT.q, hT2.q, q (xs.zip ys) n2 _ H2 [] pb (a1.trans a2) ⟨⟨fun H => (TupR H a vs ∧ ImA K H vs (xs.map enc) fp) ∧ TupR H b ws ∧ ImA K H ws (ys.map enc) fq, YPair (fun i => vs[i]?) (fun i => ws[i]?), ?_, ⟨⟨hT, hA⟩, hT2, hA2⟩, fun H H' _ ht _ g => ⟨⟨ht _ _ g.1.1, ima_stay g.1.2 ht⟩, ht _ _ g.2.1, ima_stay g.2.2 ht⟩, fun i H x H' hi g y => ?_⟩, fun b hb => absurd hb List.not_mem_nil⟩ (fun b hb => absurd hb List.not_mem_nil) fun b hb => absurd hb List.not_mem_nil⟩⟩
  · exact (walk_zipT (n := (xs.zip ys).length) (by rw [List.length_zip, hl, hl2])).mono (fun H g => ⟨g.1.1.q, g.2.1.q⟩) fun i H x H' _ _ y => y
  · obtain ⟨Tp, vx, vy, rfl, nT, rfl, ex, ey⟩ := y
    rw [List.length_zip] at hi
    obtain ⟨c, h1, h2⟩ := yat_im g.1.2 (by omega) ex
    obtain ⟨d, h3, h4⟩ := yat_im g.2.2 (by omega) ey
    obtain ⟨s, im⟩ := pair_im (H' := H) nT h2 h4
    exact ⟨(c, d), by rw [List.getElem?_zip_eq_some]; exact ⟨h1, h3⟩, s, im⟩
theorem ri_zipL [Pu α] [Pu β] {t u : TE} {m : M (Lst α)} {m2 : M (Lst β)} (h : RE K T t ρ true m) (h2 : RE K T u ρ true m2) : RI K T (_root_.RZ.iZipA K (tCons t (tCons u tNil))) ρ (b2W m m2 fun xs ys => retW (xs.l.zip ys.l)) := fun Bs po φ σ H n st P p R q => h Bs po φ σ H n st _ p _ fun xs n1 v H1 fp pa a1 i1 g1 =>
  h2 Bs po φ σ H1 n1 (st.af a1) _ pa _ fun ys n2 w H2 fq pb a2 i2 g2 => by
  have i1 := i1.af g1.1 a2.fr
  obtain ⟨a, vs, f1, rfl, hT, hA, e1⟩ := im_lst i1
  obtain ⟨b, ws, f2, rfl, hT2, hA2, e2⟩ := im_lst i2
  have z1 := ima_pu hA
  have z2 := ima_pu hA2
  subst z1 z2 e1 e2
  have hl := hA.len
  have hl2 := hA2.len
  rw [List.length_map] at hl hl2
  have g2' := Fp.back a1.fr g2
  refine ⟨a, b, vs, ws, rfl, .inl ⟨.inl (.inl hT), .inl (.inl hT2), q (xs.l.zip ys.l) n2 _ H2 [a, b] pb (a1.trans a2) ⟨⟨fun H => (H a = some (.lst vs) ∧ ImA K H vs (xs.l.map enc) []) ∧ H b = some (.lst ws) ∧ ImA K H ws (ys.l.map enc) [], YPair (fun i => vs[i]?) (fun i => ws[i]?), ?_, ⟨⟨hT, hA⟩, hT2, hA2⟩, fun H H' hl' ht _ g => ⟨⟨hl' _ (by simp) _ g.1.1, ima_stay g.1.2 ht⟩, hl' _ (by simp) _ g.2.1, ima_stay g.2.2 ht⟩, fun i H x H' hi g y => ?_⟩, fun c hc => ?_⟩ (fun c hc => ?_) fun c hc => ?_⟩⟩
  · exact (walk_zip (n := (xs.l.zip ys.l).length) (by rw [List.length_zip, hl, hl2])).mono (fun H g => ⟨.inl (.inl g.1.1), .inl (.inl g.2.1)⟩) fun i H x H' _ _ y => y
  · obtain ⟨Tp, vx, vy, rfl, nT, rfl, ex, ey⟩ := y
    rw [List.length_zip] at hi
    obtain ⟨c, h1, h2⟩ := yat_im g.1.2 (by omega) ex
    obtain ⟨d, h3, h4⟩ := yat_im g.2.2 (by omega) ey
    obtain ⟨s, im⟩ := pair_im (H' := H) nT h2 h4
    exact ⟨(c, d), by rw [List.getElem?_zip_eq_some]; exact ⟨h1, h3⟩, s, im⟩
  · simp only [List.mem_cons, List.not_mem_nil, or_false] at hc
    rcases hc with rfl | rfl
    · exact ⟨_, hT⟩
    · exact ⟨_, hT2⟩
  · simp only [List.mem_cons, List.not_mem_nil, or_false] at hc
    rcases hc with rfl | rfl
    · exact g1.1 _ List.mem_cons_self
    · exact g2.1 _ List.mem_cons_self
  · simp only [List.mem_cons, List.not_mem_nil, or_false] at hc
    rcases hc with rfl | rfl
    · exact .inr ((g1.2 rfl).2 _ List.mem_cons_self)
    · exact .inr ((g2'.2 rfl).2 _ List.mem_cons_self)
def enW (xs : List α) : List (Nat × α) := (List.range xs.length).zip xs
theorem enW_get {xs : List α} {i : Nat} {a : α} (h : xs[i]? = some a) : (enW xs)[i]? = some (i, a) := by
  unfold enW
  rw [List.getElem?_zip_eq_some]
  exact ⟨List.getElem?_range (List.getElem?_eq_some_iff.mp h).1, h⟩
theorem enW_len {xs : List α} : (enW xs).length = xs.length := by
  unfold enW
  rw [List.length_zip, List.length_range, Nat.min_self]
theorem ri_enT [Pu α] {t : TE} {m : M (List α)} {f : Bool} (h : RE K T t ρ f m) : RI K T (iEnT K (tCons t tNil)) ρ (mapW enW m) := fun Bs po φ σ H n st P p R q => h Bs po φ σ H n st _ p _ fun xs n1 v H1 fp pa a1 i1 g1 => by
  obtain ⟨a, vs, rfl, hT, hA⟩ := im_tup i1
  have hl := hA.len
  rw [List.length_map] at hl
  refine ⟨a, vs, rfl, hT.q, q (enW xs) n1 _ H1 [] pa a1 ⟨⟨fun H => TupR H a vs ∧ ImA K H vs (xs.map enc) fp, YPair (fun i => some (.int (i : Nat))) (fun i => vs[i]?), ?_, ⟨hT, hA⟩, fun H H' _ ht _ g => ⟨ht _ _ g.1, ima_stay g.2 ht⟩, fun i H x H' hi g y => ?_⟩, fun b hb => absurd hb List.not_mem_nil⟩ (fun b hb => absurd hb List.not_mem_nil) fun b hb => absurd hb List.not_mem_nil⟩
  · rw [enW_len, ← hl]
    exact walk_enT.mono (fun H g => g.1.q) fun i H x H' _ _ y => y
  · obtain ⟨Tp, vx, vy, rfl, nT, rfl, ex, ey⟩ := y
    rw [enW_len] at hi
    obtain ⟨d, h3, h4⟩ := yat_im g.2 hi ey
    obtain rfl : V.int (i : Nat) = vx := Option.some.inj ex
    obtain ⟨s, im⟩ := pair_im (H' := H) (a := i) nT (.int _) h4
    exact ⟨(i, d), enW_get h3, s, im⟩
theorem ri_enL [Pu α] {i : Nat} {xs : Lst α} (hi : ρ[i]? = some (.bor (enc xs))) : RI K T (iEnum K (tCons (tVar i) tNil)) ρ (retW (enW xs.l)) := fun Bs po φ σ H n st P p R q => by
  obtain ⟨v, h1, h2, h3⟩ := st.sl i _ hi
  obtain ⟨a, vs, fq, rfl, hT, hA, e⟩ := im_lst h2
  have hl := hA.len
  have := ima_pu hA
  subst this
  rw [List.length_map] at hl
  have ha : a ∈ φ i := by rw [e]; exact List.mem_cons_self
  refine ⟨_, h1, a, vs, rfl, .inl (.inl hT), q (enW xs.l) n _ H [a] p Af.refl ⟨⟨fun H => H a = some (.lst vs) ∧ ImA K H vs (xs.l.map enc) [], YPair (fun i => some (.int (i : Nat))) (fun i => vs[i]?), ?_, ⟨hT, hA⟩, fun H H' hl' ht _ g => ⟨hl' a List.mem_cons_self _ g.1, ima_stay g.2 ht⟩, fun i H x H' hi g y => ?_⟩, fun b hb => by rw [List.mem_singleton.mp hb]; exact ⟨_, hT⟩⟩ (fun b hb => by rw [List.mem_singleton.mp hb]; exact (h3 a ha).1) fun b hb => .inl (by rw [List.mem_singleton.mp hb]; exact (h3 a ha).2)⟩
  · rw [enW_len, ← hl]
    exact walk_enum.mono (fun H g => .inl (.inl g.1)) fun i H x H' _ _ y => y
  · obtain ⟨Tp, vx, vy, rfl, nT, rfl, ex, ey⟩ := y
    rw [enW_len] at hi
    obtain ⟨d, h3, h4⟩ := yat_im g.2 hi ey
    obtain rfl : V.int (i : Nat) = vx := Option.some.inj ex
    obtain ⟨s, im⟩ := pair_im (H' := H) (a := i) nT (.int _) h4
    exact ⟨(i, d), enW_get h3, s, im⟩
/-! ### comprehensions -/
def lcW0 {α β : Type} (mt : α → M Bool) (me : α → M β) : List α → List β → M (Lst β)
  | [], acc => retW ⟨acc⟩
  | x :: xs, acc => bindW (mt x) fun b => if b = true then bindW (me x) fun y => lcW0 mt me xs (acc ++ [y]) else lcW0 mt me xs acc
theorem lcW_ex {α β : Type} (mt : α → M Bool) (me : α → M β) : ∃ g : List α → List β → M (Lst β), (∀ acc, g [] acc = retW ⟨acc⟩) ∧ ∀ x xs acc, g (x :: xs) acc = bindW (mt x) fun b => if b = true then bindW (me x) fun y => g xs (acc ++ [y]) else g xs acc := ⟨lcW0 mt me, fun _ => rfl, fun _ _ _ => rfl⟩
/-- sealed: it isn't gone through of itself -/
noncomputable def lcW {α β : Type} (mt : α → M Bool) (me : α → M β) : List α → List β → M (Lst β) := Classical.choose (lcW_ex mt me)
theorem lcW_nil {α β : Type} {mt : α → M Bool} {me : α → M β} {acc : List β} : lcW mt me [] acc = retW ⟨acc⟩ := (Classical.choose_spec (lcW_ex mt me)).1 acc
theorem lcW_cons {α β : Type} {mt : α → M Bool} {me : α → M β} {x : α} {xs : List α} {acc : List β} : lcW mt me (x :: xs) acc = bindW (mt x) fun b => if b = true then bindW (me x) fun y => lcW mt me xs (acc ++ [y]) else lcW mt me xs acc := (Classical.choose_spec (lcW_ex mt me)).2 x xs acc
theorem re_lc [Pu β] {wi : TI} {g : TG} {tt : TT} {te : TE} {vs ts : List Nat} {mi : M (List α)} {mt : α → M Bool} {me : α → M β} {ρw : List Sl} {ρx : α → List Sl} {f : Bool} (hw : wipeR ρ vs = ρw) (hi : RI K T wi ρ mi) (hts : ∀ t ∈ ts, t ∈ vs) (hg : ∀ a, RG K T ts g a ρw (ρx a))
    (ht : ∀ a, RT K T tt (ρx a) (mt a)) (he : ∀ a, RE K T te (ρx a) f (me a)) : RE K T (tLc wi g tt te vs) ρ true (bindW mi fun xs => reqW (xs.length ≤ sizeLine) (lcW mt me xs [])) := fun Bs po φ σ H n st P p Q q =>
  hi Bs po φ σ H n st _ p _ fun xs n1 J H1 fi pa a1 ok hfp hfi D nD => by
    subst hw
    obtain ⟨⟨G, Y, w, g0, gs, gy⟩, hlst⟩ := ok
    have st1 := st.af a1
    have hDp : po ≠ some D := st1.fresh_pot fun o e => by rw [nD] at e; cases e
    have sD : Same H1 (upd H1 D (.lst [])) := same_new (Same.refl H1) nD
    have hfD : ∀ b ∈ fi, b ≠ D := fun b hb e => by
      obtain ⟨l, hl⟩ := hlst b hb
      rw [e, nD] at hl
      cases hl
    refine lc_it w (fun i H' => ∃ (n' : Nat) (acc : List β) (vs' : List V), Af K T po H1 n1 H' n' ∧ G H' ∧ H' D = some (.lst vs') ∧ ImA K H' vs' (acc.map enc) [] ∧ acc.length ≤ i ∧ lcW mt me (xs.drop i) acc n' P) ⟨n1, [], [], Af.same sD, gs H1 _ (fun b hb l e => sD b _ e) (fun b l e => sD _ _ e) (fun b hb => (by obtain ⟨l, hl⟩ := hlst b hb; exact ⟨l, hl, hl⟩)) g0, upd_same, .nil, Nat.le_refl _, by rw [List.drop_zero]; exact pa.2⟩ (fun i H' _ z => by obtain ⟨_, _, _, _, z, _⟩ := z; exact z) ?_ ?_
    · rintro i x HA HB hi' ⟨n', acc, vs', af, gA, eD, hA, hacc, pl⟩ hy
      obtain ⟨a, ha, sAB, imx⟩ := gy i HA x HB hi' gA hy
      have afB := af.trans (Af.same sAB)
      have stB := (st1.af afB).wipe vs
      have hdr : xs.drop i = a :: xs.drop (i + 1) := by
        rw [List.drop_eq_getElem_cons hi']
        congr 1
        exact Option.some.inj ((List.getElem?_eq_getElem hi').symm.trans ha)
      rw [hdr, lcW_cons] at pl
      have keepG : ∀ HC nC, Af K T po H1 n1 HC nC → G HA → (∀ b ∈ fi, ∀ l, HA b = some (.lst l) → HC b = some (.lst l)) → (∀ b l, TupR HA b l → TupR HC b l) → G HC := fun HC nC afC gA' h1 h2 => gs HA HC h1 h2 (fun b hb => by
        obtain ⟨l, hl⟩ := hlst b hb
        exact ⟨l, hl, af.fr.keep b _ (hfp b hb) hl fun ps z => nomatch z⟩) gA'
      refine hg a Bs po φ (L2.wipe σ vs) HB n' stB x [] imx List.nodup_nil (fun b hb => absurd hb List.not_mem_nil) _ fun σ' φ' stx hwp _ => ⟨(hwp vs hts).trans (wipe_wipe vs), ?_⟩
      refine ht a Bs po φ' σ' HB n' stx _ pl _ fun b n2 HC pb a2 => ?_
      have eDB := sAB _ _ eD
      have eDC := a2.fr.keep D _ hDp eDB fun ps z => nomatch z
      cases b with
      | false =>
        refine (if_neg (by decide)).mpr ⟨n2, acc, vs', afB.trans a2, ?_, eDC, (hA.same sAB).af (fun b hb => absurd hb List.not_mem_nil) a2.fr, by omega, ?_⟩
        · exact keepG HC n2 (afB.trans a2) gA (fun b hb l e => a2.fr.keep b _ (hfp b hb) (sAB _ _ e) fun ps z => nomatch z) fun b l e => a2.fr.tup b l (sAB _ _ e)
        · exact pb
      | true =>
        refine (if_pos rfl).mpr (he a Bs po φ' σ' HC n2 (stx.af a2) _ pb _ fun y n3 u HE fp' pe a3 iy gy' => ?_)
        have eDE := a3.fr.keep D _ hDp eDC fun ps z => nomatch z
        have z := Pu.pu iy
        subst z
        have hAE := ((hA.same sAB).af (po := po) (fun b hb => absurd hb List.not_mem_nil) a2.fr).af (po := po) (fun b hb => absurd hb List.not_mem_nil) a3.fr
        have hl := hA.len
        rw [List.length_map] at hl
        have afE := (afB.trans a2).trans a3
        have keepU : ∀ b o, b ≠ D → HE b = some o → (upd HE D (.lst (vs' ++ [u]))) b = some o := fun b o nb e => by rw [upd_ne nb]; exact e
        have tupU : ∀ b l, TupR HE b l → TupR (upd HE D (.lst (vs' ++ [u]))) b l := fun b l e => keepU _ _ (fun z => by unfold TupR at e; rw [z, eDE] at e; cases e) e
        have afU : Af K T po H1 n1 (upd HE D (.lst (vs' ++ [u]))) n3 := by
          refine ⟨⟨fun b o hb e t => ?_, fun b l e => tupU b l (afE.fr.tup b l e)⟩, fun t => tabs_upd (afE.tabs t) eDE, fun p hp pp => ?_⟩
          · exact keepU b o (fun z => by rw [z, nD] at e; cases e) (afE.fr.keep b o hb e t)
          · obtain ⟨x1, x2, x3, e, h⟩ := afE.pot p hp pp
            exact ⟨x1, x2, x3, keepU _ _ (fun z => hDp (by rw [← z]; exact hp)) e, h⟩
        refine ⟨vs', eDE, ?_, n3, acc ++ [y], vs' ++ [u], afU, ?_, upd_same, ?_, by rw [List.length_append, List.length_singleton]; omega, pe⟩
        · rw [hl]
          have := pa.1
          omega
        · exact keepG _ n3 afU gA (fun b hb l e => keepU b _ (hfD b hb) (a3.fr.keep b _ (hfp b hb) (a2.fr.keep b _ (hfp b hb) (sAB _ _ e) fun ps z => nomatch z) fun ps z => nomatch z)) fun b l e => tupU b l (a3.fr.tup b l (a2.fr.tup b l (sAB _ _ e)))
        · rw [List.map_append]
          exact ImA.stab tupU _ _ _ (hAE.app (.cons iy .nil rfl)) fun b hb => absurd hb List.not_mem_nil
    · rintro HA ⟨n', acc, vs', af, gA, eD, hA, hacc, pl⟩
      rw [List.drop_length, lcW_nil] at pl
      have st2 := st1.af af
      exact q ⟨acc⟩ n' _ HA [D] pl (a1.trans af) (.lst eD hA rfl) (Fp.back a1.fr (fp_new st1 ⟨List.nodup_cons.mpr ⟨List.not_mem_nil, List.nodup_nil⟩, fun x hx => by rw [List.mem_singleton.mp hx]; exact nD⟩))
end
end Bf
namespace Bf
open PySem PySem.Spec PyProof.Rows L2 LamX NdefX
inductive Ctl (R B S : Type) where
  | nxt (s : S)
  | ret (r : R)
  | brk (b : B)
def Tpk (K : PySem.W.Frag) (H H' : Hp) : Prop := ∀ b xs, TupR H b xs → TupR H' b xs
def Sub (Bs Bs' : Addr → HO → Prop) : Prop := ∀ b o, Bs b o → Bs' b o
section
variable {K : PySem.W.Frag} {T : List (Addr × Str)} {Bs : Addr → HO → Prop} {po : Option Addr} {ρ : List Sl} {φ : Nat → List Addr} {σ : L2.St} {H H' : Hp} {n n' : Nat}
theorem tabs_updM {T : List (Addr × Str)} {H : Hp} {D : Addr} {u u' : HO} (t : Tabs T H) (h : H D = some u) (hm : Mtb u) : Tabs T (upd H D u') := fun y hy => by
  obtain ⟨ps, t1, t2, t3⟩ := t y hy
  refine ⟨ps, ?_, t2, fun pos cv hc => ?_⟩
  · rw [upd_ne (fun e => by rw [e, h] at t1; cases t1; exact hm)]
    exact t1
  · obtain ⟨c, e1, e2⟩ := t3 pos cv hc
    refine ⟨c, e1, ?_⟩
    rw [upd_ne (fun e => by rw [e, h] at e2; unfold CodeO at e2; cases e2; exact hm)]
    exact e2
theorem ST.writeM (h : ST K T Bs po ρ φ σ H n) {i : Nat} {a : Addr} {d d' : PyData} {u u' : HO} (hi : ρ[i]? = some (.own d)) (hv : σ[i]? = some (some (.ref a))) (ha : a ∈ φ i) (e : H a = some u) (hm : Mtb u) (hn : Im K (upd H a u') (.ref a) d' (φ i)) :
    ST K T Bs po (ρ.set i (.own d')) φ σ (upd H a u') n ∧ Tpk K H (upd H a u') := by
  obtain ⟨v, h1, h2, h3, h4⟩ := h.sl i _ hi
  have hil := (List.getElem?_eq_some_iff.mp hi).1
  have tup : ∀ b xs, TupR H b xs → TupR (upd H a u') b xs := fun b xs z => by
    unfold TupR at z ⊢
    rw [upd_ne (fun q => by rw [q, e] at z; cases z; exact hm)]
    exact z
  refine ⟨⟨tabs_updM h.tabs e hm, fun b o z => ?_, fun p hp => ?_, by rw [List.length_set]; exact h.len, fun j s ej => ?_, fun j k d1 e1 hjk ej ek => ?_⟩, tup⟩
  · obtain ⟨z1, z2, z3⟩ := h.base b o z
    exact ⟨by rw [upd_ne (fun q => (h4 a ha).2 o (by rw [← q]; exact z))]; exact z1, z2, z3⟩
  · obtain ⟨x, y, z, hH, hh⟩ := h.pot p hp
    exact ⟨x, y, z, by rw [upd_ne (fun q => (h4 a ha).1 (by rw [← q]; exact hp))]; exact hH, hh⟩
  · rw [List.getElem?_set] at ej
    by_cases hij : i = j
    · subst hij
      rw [if_pos rfl, if_pos hil] at ej
      obtain rfl : Sl.own d' = s := Option.some.inj ej
      exact ⟨_, hv, hn, h3, h4⟩
    · rw [if_neg hij] at ej
      have z := h.sl j s ej
      cases s with
      | any => trivial
      | pot => exact z
      | scr ns => exact z
      | bor d1 =>
        obtain ⟨v', z1, z2, z3⟩ := z
        refine ⟨v', z1, Im.stab tup _ _ _ z2 fun b hb xs eb _ => ?_, z3⟩
        rw [upd_ne (fun q => by obtain ⟨o, ho⟩ := (z3 b hb).2; exact (h4 a ha).2 o (by rw [← q]; exact ho))]
        exact eb
      | own d1 =>
        obtain ⟨v', z1, z2, z3, z4⟩ := z
        refine ⟨v', z1, Im.stab tup _ _ _ z2 fun b hb xs eb _ => ?_, z3, z4⟩
        rw [upd_ne (fun q => h.dis i j d d1 hij hi ej a ha (by rw [← q]; exact hb))]
        exact eb
      | borA v' fq d1 =>
        refine ⟨z.1, Im.stab tup _ _ _ z.2.1 fun b hb xs eb _ => ?_, z.2.2⟩
        rw [upd_ne (fun q => by obtain ⟨o, ho⟩ := (z.2.2 b hb).2; exact (h4 a ha).2 o (by rw [← q]; exact ho))]
        exact eb
      | lkd d1 =>
        obtain ⟨b, od, u1, z1, z2, z3, z4⟩ := z
        refine ⟨b, od, u1, z1, z2, by rw [upd_ne (fun q => by rw [q, e] at z3; cases z3; exact hm)]; exact z3, ?_⟩
        rcases z4 with ⟨kvs, ps, y1, y2, y3, y4⟩ | ⟨kvs, ps, y1, y2, y3, y4⟩
        · exact .inl ⟨kvs, ps, y1, y2, y3, ImA.stab tup _ _ _ y4 fun b hb => absurd hb List.not_mem_nil⟩
        · exact .inr ⟨kvs, ps, y1, y2, y3, ImA.stab tup _ _ _ y4 fun b hb => absurd hb List.not_mem_nil⟩
  · have back : ∀ (j : Nat) (d1 : PyData), (ρ.set i (.own d'))[j]? = some (.own d1) → ∃ d2, ρ[j]? = some (.own d2) := fun j d1 ej => by
      rw [List.getElem?_set] at ej
      by_cases hij : i = j
      · subst hij; exact ⟨d, hi⟩
      · rw [if_neg hij] at ej; exact ⟨d1, ej⟩
    obtain ⟨d2, ej⟩ := back j d1 ej
    obtain ⟨d3, ek⟩ := back k e1 ek
    exact h.dis j k d2 d3 hjk ej ek
theorem ST.write (h : ST K T Bs po ρ φ σ H n) {i : Nat} {a : Addr} {d d' : PyData} {vs vs' : List V} (hi : ρ[i]? = some (.own d)) (hv : σ[i]? = some (some (.ref a))) (ha : a ∈ φ i) (e : H a = some (.lst vs)) (hn : Im K (upd H a (.lst vs')) (.ref a) d' (φ i)) :
    ST K T Bs po (ρ.set i (.own d')) φ σ (upd H a (.lst vs')) n ∧ Tpk K H (upd H a (.lst vs')) := h.writeM hi hv ha e trivial hn
end
section
variable {K : PySem.W.Frag} {T : List (Addr × Str)} {ρ : List Sl}
variable {α β γ δ : Type} [Enc α] [Enc β] [Enc γ] [Enc δ]
variable {R B S S2 : Type} [Enc R] {C : Option Addr → Prop}
/-! ## statements -/
def RB (K : PySem.W.Frag) (T : List (Addr × Str)) (C : Option Addr → Prop) (t : TS) (ρ : List Sl) {R B S : Type} [Enc R] (m : M (Ctl R B S)) (ρn : S → List Sl) (ρb : B → List Sl) : Prop :=
  ∀ (Bs : Addr → HO → Prop) (po : Option Addr), C po → ∀ (σ : L2.St) (H : Hp) (n : Nat), STe K T Bs po ρ σ H n → ∀ P : Ctl R B S → Nat → Prop, m n P → ∀ D : Ends,
    (∀ s n' σ' H' Bs', P (.nxt s) n' → Sub Bs Bs' → STe K T Bs' po (ρn s) σ' H' n' → Tpk K H H' → D.nx σ' H') →
    (∀ b n' σ' H' Bs', P (.brk b) n' → Sub Bs Bs' → STe K T Bs' po (ρb b) σ' H' n' → Tpk K H H' → D.bk σ' H') →
    (∀ r n' v H' fp, P (.ret r) n' → Tabs T H' → (∀ b o, Bs b o → H' b = some o) → (∀ a, po = some a → Pot H' a n') → Tpk K H H' → Im K H' v (enc r) fp → fp.Nodup → (∀ b ∈ fp, po ≠ some b ∧ ∀ o, ¬ Bs b o) → D.rt v H') → t D σ H
def Tpk.refl {H : Hp} : Tpk K H H := fun _ _ h => h
theorem Tpk.trans {H H1 H2 : Hp} (a : Tpk K H H1) (b : Tpk K H1 H2) : Tpk K H H2 := fun x xs h => b x xs (a x xs h)
variable {ρn : S → List Sl} {ρb : B → List Sl}
/-- what is behind a step -/
theorem RB.go {t : TS} {m : M (Ctl R B S)} (h : RB K T C t ρ m ρn ρb) {Bs Bs1 : Addr → HO → Prop} {po : Option Addr} (hC : C po) {σ : L2.St} {H0 H : Hp} {n : Nat} (st : STe K T Bs1 po ρ σ H n) {P : Ctl R B S → Nat → Prop} (p : m n P) {D : Ends} (sub : Sub Bs Bs1) (tp : Tpk K H0 H)
    (h1 : ∀ s n' σ' H' Bs', P (.nxt s) n' → Sub Bs Bs' → STe K T Bs' po (ρn s) σ' H' n' → Tpk K H0 H' → D.nx σ' H') (h2 : ∀ b n' σ' H' Bs', P (.brk b) n' → Sub Bs Bs' → STe K T Bs' po (ρb b) σ' H' n' → Tpk K H0 H' → D.bk σ' H')
    (h3 : ∀ r n' v H' fp, P (.ret r) n' → Tabs T H' → (∀ b o, Bs b o → H' b = some o) → (∀ a, po = some a → Pot H' a n') → Tpk K H0 H' → Im K H' v (enc r) fp → fp.Nodup → (∀ b ∈ fp, po ≠ some b ∧ ∀ o, ¬ Bs b o) → D.rt v H') : t D σ H :=
  h Bs1 po hC σ H n st P p D (fun s n' σ' H' Bs' p' sb st' tp' => h1 s n' σ' H' Bs' p' (fun b o z => sb b o (sub b o z)) st' (tp.trans tp')) (fun s n' σ' H' Bs' p' sb st' tp' => h2 s n' σ' H' Bs' p' (fun b o z => sb b o (sub b o z)) st' (tp.trans tp'))
    fun r n' v H' fp p' tb bs pt tp' im nd hf => h3 r n' v H' fp p' tb (fun b o z => bs b o (sub b o z)) pt (tp.trans tp') im nd fun b hb => ⟨(hf b hb).1, fun o z => (hf b hb).2 o (sub b o z)⟩
theorem rb_asg {te : TE} {g : TG} {tu : TS} {ts : List Nat} {m : M α} {k : α → M (Ctl R B S)} {ρ2 : α → List Sl} (he : RE K T te ρ true m) (hg : ∀ a, RG K T ts g a ρ (ρ2 a)) (hu : ∀ a, RB K T C tu (ρ2 a) (k a) ρn ρb) : RB K T C (tSeq (tAsg te g) tu) ρ (bindW m k) ρn ρb :=
  fun Bs po hC σ H n ⟨φ, st⟩ P p D h1 h2 h3 => he Bs po φ σ H n st _ p _ fun a n1 v H1 fp pa a1 im f => by
    have st1 := st.af a1
    refine hg a Bs po φ σ H1 n1 st1 v fp im (f.2 rfl).1 (fun b hb => ⟨f.1 b hb, st.fresh_bs ((f.2 rfl).2 b hb), fun j e ej => st.fresh_own ((f.2 rfl).2 b hb) ej⟩) _ fun σ' φ' st2 _ _ => ?_
    exact (hu a).go (Bs := Bs) hC ⟨φ', st2⟩ pa (fun b o z => z) a1.fr.tup h1 h2 h3
/-- a, b = x, y -/
theorem rb_par {t1 t2 : TE} {tu : TS} {i j : Nat} {m1 : M α} {m2 : M β} {k : α → β → M (Ctl R B S)} {ρ2 : α → β → List Sl} (ha : RE K T t1 ρ true m1) (hb : RE K T t2 ρ true m2) (hi : i < ρ.length) (hj : j < ρ.length) (hij : i ≠ j) (e : ∀ a b, (ρ.set i (.own (enc a))).set j (.own (enc b)) = ρ2 a b)
    (hu : ∀ a b, RB K T C tu (ρ2 a b) (k a b) ρn ρb) : RB K T C (tSeq (tPar i j (tCons t1 (tCons t2 tNil))) tu) ρ (b2W m1 m2 k) ρn ρb :=
  fun Bs po hC σ H n ⟨φ, st⟩ P p D h1 h2 h3 => ha Bs po φ σ H n st _ p _ fun a n1 v H1 fp pa a1 i1 g1 => hb Bs po φ σ H1 n1 (st.af a1) _ pa _ fun b n2 w H2 fq pb a2 i2 g2 => by
    have a12 := a1.trans a2
    have st2 := st.af a12
    have i1' := i1.af g1.1 a2.fr
    have g2' := Fp.back a1.fr g2
    have st3 := st2.put hi i1' (g1.2 rfl).1 (st.fresh_new g1 i).2
    have st4 := st3.put (i := j) (by rw [List.length_set]; exact hj) i2 (g2.2 rfl).1 fun c hc => by
      obtain ⟨z1, z2, z3⟩ := (st.fresh_new g2' j).2 c hc
      refine ⟨z1, z2, fun l d hl el => ?_⟩
      show c ∉ (if l = i then fp else φ l)
      by_cases hli : l = i
      · rw [if_pos hli]
        intro z
        obtain ⟨x, hx, hm⟩ := Im.mtb _ _ _ i1 c z
        obtain ⟨ps, q⟩ := (g2.2 rfl).2 c hc _ hx
        exact hm.tbl ps q
      · rw [if_neg hli]
        rw [List.getElem?_set, if_neg (Ne.symm hli)] at el
        exact z3 l d hl el
    rw [e a b] at st4
    exact ⟨v, w, rfl, (hu a b).go (Bs := Bs) hC ⟨_, st4⟩ pb (fun b o z => z) a12.fr.tup h1 h2 h3⟩
/-- x += e -/
theorem rb_aug {te : TE} {tu : TS} {i : Nat} {r : R2} {a : α} {m : M β} {f : α → β → M γ} {k : γ → M (Ctl R B S)} {ρ2 : γ → List Sl} (hr : OpW K r f) (hi : ρ[i]? = some (.own (enc a))) (he : RE K T te ρ true m) (e : ∀ c, ρ.set i (.own (enc c)) = ρ2 c) (hu : ∀ c, RB K T C tu (ρ2 c) (k c) ρn ρb) :
    RB K T C (tSeq (tAug i te r) tu) ρ (bindW (bindW m (f a)) k) ρn ρb := fun Bs po hC σ H n ⟨φ, st⟩ P p D h1 h2 h3 => by
  obtain ⟨v, e1, e2, e3, e4⟩ := st.sl i _ hi
  refine ⟨v, e1, he Bs po φ σ H n st _ p _ fun b n1 w H1 fp pa a1 im g => hr a b H1 v w (φ i) fp (e2.af (fun b hb => (e4 b hb).1) a1.fr) im n1 _ pa _ fun c H3 v' fr pc s3 i3 g3 => ?_⟩
  have af := a1.trans (Af.same s3 (T := T) (po := po))
  have st4 := st.set af (i := i) (List.getElem?_eq_some_iff.mp hi).1 i3 (Fp.back a1.fr (fp_new (st.af a1) g3))
  rw [e c] at st4
  exact (hu c).go (Bs := Bs) hC ⟨_, st4⟩ pc (fun b o z => z) af.fr.tup h1 h2 h3
/-- e; as a statement -/
theorem rb_drop {te : TE} {tu : TS} {m : M α} {k : α → M (Ctl R B S)} {f : Bool} (he : RE K T te ρ f m) (hu : ∀ a, RB K T C tu ρ (k a) ρn ρb) : RB K T C (tSeq (tDrop te) tu) ρ (bindW m k) ρn ρb := fun Bs po hC σ H n ⟨φ, st⟩ P p D h1 h2 h3 =>
  he Bs po φ σ H n st _ p _ fun a n1 v H1 fp pa a1 im g => (hu a).go (Bs := Bs) hC ⟨φ, st.af a1⟩ pa (fun b o z => z) a1.fr.tup h1 h2 h3
/-- xs.append(e) -/
theorem rb_append [Pu α] {te : TE} {tu : TS} {i : Nat} {xs : Lst α} {m : M α} {k : α → M (Ctl R B S)} {ρ2 : α → List Sl} {f : Bool} (hi : ρ[i]? = some (.own (enc xs))) (he : RE K T te ρ f m) (e : ∀ a, ρ.set i (.own (enc (⟨xs.l ++ [a]⟩ : Lst α))) = ρ2 a) (hu : ∀ a, RB K T C tu (ρ2 a) (k a) ρn ρb) :
    RB K T C (tSeq (tDrop (tBM K "list" rAppend (tVar i) (tCons te tNil))) tu) ρ (bindW m fun a => reqW (xs.l.length < sizeLine) (k a)) ρn ρb := fun Bs po hC σ H n ⟨φ, st⟩ P p D h1 h2 h3 => by
  obtain ⟨v, e1, e2, e3, e4⟩ := st.sl i _ hi
  obtain ⟨a, vs, fq, rfl, hT, hA, eφ⟩ := im_lst e2
  refine ⟨_, e1, .inl ⟨rfl, vs, .inl (.inl hT)⟩, he Bs po φ σ H n st _ p _ fun x n1 w H1 fp pa a1 im g => ?_⟩
  have z := Pu.pu im
  subst z
  have z := ima_pu hA
  subst z
  have st1 := st.af a1
  have ha : a ∈ φ i := by rw [eφ]; exact List.mem_cons_self
  have hT1 := a1.fr.keep a _ (e4 a ha).1 hT fun ps z => nomatch z
  have hA1 := hA.af (po := po) (fun b hb => absurd hb List.not_mem_nil) a1.fr
  have hl := hA.len
  rw [List.length_map] at hl
  refine ⟨a, vs, w, rfl, rfl, hT1, by rw [hl]; exact pa.1, ?_⟩
  have tup : ∀ b xs, TupR H1 b xs → TupR (upd H1 a (.lst (vs ++ [w]))) b xs := fun b xs z => by
    unfold TupR at z ⊢
    rw [upd_ne (fun q => by rw [q, hT1] at z; cases z)]
    exact z
  obtain ⟨st2, tp⟩ := st1.write (d' := enc (⟨xs.l ++ [x]⟩ : Lst α)) (vs' := vs ++ [w]) hi e1 ha hT1 (by
    rw [eφ]
    refine .lst upd_same ?_ rfl
    show ImA K _ (vs ++ [w]) ((xs.l ++ [x]).map enc) []
    rw [List.map_append]
    exact ImA.stab tup _ _ _ (hA1.app (.cons im .nil rfl)) fun b hb => absurd hb List.not_mem_nil)
  rw [e x] at st2
  exact (hu x).go (Bs := Bs) hC ⟨φ, st2⟩ pa.2 (fun b o z => z) (Tpk.trans a1.fr.tup tp) h1 h2 h3
/-- xs[j] = e -/
theorem rb_setix [Pu α] {ts : TSet} (hts : ∀ (a : Addr) (v : V) (ys : List V) (j : Nat) (H : Hp) (Q : Hp → Prop), H a = some (.lst ys) → j < ys.length → Q (upd H a (.lst (ys.set j v))) → ts (.ref a) (.int (j : Int)) v H Q) {te tj : TE} {tu : TS} {i : Nat} {xs : Lst α} {m : M α} {mj : M Nat} {k : α → Nat → M (Ctl R B S)} {ρ2 : α → Nat → List Sl} {f f2 : Bool} (hi : ρ[i]? = some (.own (enc xs))) (he : RE K T te ρ f m) (hj : RE K T tj ρ f2 mj) (e : ∀ a j, ρ.set i (.own (enc (⟨xs.l.set j a⟩ : Lst α))) = ρ2 a j) (hu : ∀ a j, RB K T C tu (ρ2 a j) (k a j) ρn ρb) :
    RB K T C (tSeq (tAsg te (gSub (tVar i) tj ts)) tu) ρ (b2W m mj fun a j => reqW (j < xs.l.length) (k a j)) ρn ρb := fun Bs po hC σ H n ⟨φ, st⟩ P p D h1 h2 h3 => by
  refine he Bs po φ σ H n st _ p _ fun x n1 w H1 fp pa a1 im g => ?_
  have st1 := st.af a1
  obtain ⟨v, e1, e2, e3, e4⟩ := st1.sl i _ hi
  obtain ⟨a, vs, fq, rfl, hT, hA, eφ⟩ := im_lst e2
  refine ⟨_, e1, hj Bs po φ σ H1 n1 st1 _ pa _ fun j n2 y H2 fp2 pb a2 im2 g2 => ?_⟩
  have z := Pu.pu im
  subst z
  have z := ima_pu hA
  subst z
  cases im2
  have st2 := st1.af a2
  have ha : a ∈ φ i := by rw [eφ]; exact List.mem_cons_self
  have hT1 := a2.fr.keep a _ (e4 a ha).1 hT fun ps z => nomatch z
  have hA1 := hA.af (po := po) (fun b hb => absurd hb List.not_mem_nil) a2.fr
  have imx := im.af (po := po) (fun b hb => absurd hb List.not_mem_nil) a2.fr
  have hl := hA.len
  rw [List.length_map] at hl
  refine hts a w vs j H2 _ hT1 (by rw [hl]; exact pb.1) ?_
  have tup : ∀ b xs, TupR H2 b xs → TupR (upd H2 a (.lst (vs.set j w))) b xs := fun b xs z => by
    unfold TupR at z ⊢
    rw [upd_ne (fun q => by rw [q, hT1] at z; cases z)]
    exact z
  have hset : ∀ {ys : List α} {us : List V} (j : Nat), ImA K H2 us (ys.map enc) [] → ImA K H2 (us.set j w) ((ys.set j x).map enc) [] := by
    intro ys
    induction ys with
    | nil => intro us j h; cases h; exact .nil
    | cons y ys ih =>
      intro us j h
      cases h with
      | cons a b q =>
        have e1 := ima_pu b
        have e2 := Pu.pu a
        subst e1 e2
        cases j with
        | zero => exact .cons imx b rfl
        | succ j => exact .cons a (ih j b) rfl
  obtain ⟨st3, tp⟩ := st2.write (d' := enc (⟨xs.l.set j x⟩ : Lst α)) (vs' := vs.set j w) hi e1 ha hT1 (by
    rw [eφ]
    exact .lst upd_same (ImA.stab tup _ _ _ (hset j hA1) fun b hb => absurd hb List.not_mem_nil) rfl)
  rw [e x j] at st3
  exact (hu x j).go (Bs := Bs) hC ⟨φ, st3⟩ pb.2 (fun b o z => z) (Tpk.trans (Tpk.trans a1.fr.tup a2.fr.tup) tp) h1 h2 h3
/-- return e -/
theorem rb_ret {te : TE} {tu : TS} {m : M R} (he : RE K T te ρ true m) : RB K T C (tSeq (tRet te) tu) ρ (bindW m fun r => retW (.ret r)) ρn ρb := fun Bs po hC σ H n ⟨φ, st⟩ P p D h1 h2 h3 =>
  he Bs po φ σ H n st _ p _ fun a n1 v H1 fp pa a1 im g => by
    have st1 := st.af a1
    exact h3 a n1 v H1 fp pa st1.tabs (fun b o z => (st1.base b o z).1) st1.pot a1.fr.tup im (g.2 rfl).1 fun b hb => ⟨g.1 b hb, st.fresh_bs ((g.2 rfl).2 b hb)⟩
/-- return xs, xs an own one -/
theorem rb_retv {tu : TS} {i : Nat} {r : R} (hi : ρ[i]? = some (.own (enc r))) : RB K T C (tSeq (tRet (tVar i)) tu) ρ (retW (.ret r)) ρn ρb := fun Bs po hC σ H n ⟨φ, st⟩ P p D h1 h2 h3 => by
  obtain ⟨v, e1, e2, e3, e4⟩ := st.sl i _ hi
  exact ⟨v, e1, h3 r n v H (φ i) p st.tabs (fun b o z => (st.base b o z).1) st.pot Tpk.refl e2 e3 e4⟩
theorem rb_end {s : S} (h : RhoLe (ρn s) ρ) : RB K T C tNext ρ (retW (.nxt s) : M (Ctl R B S)) ρn ρb := fun Bs po hC σ H n ⟨φ, st⟩ P p D h1 h2 h3 => h1 s n σ H Bs p (fun _ _ z => z) ⟨φ, st.le h⟩ Tpk.refl
theorem rb_brk {tu : TS} {s : B} (h : RhoLe (ρb s) ρ) : RB K T C (tSeq tBreak tu) ρ (retW (.brk s) : M (Ctl R B S)) ρn ρb := fun Bs po hC σ H n ⟨φ, st⟩ P p D h1 h2 h3 => h2 s n σ H Bs p (fun _ _ z => z) ⟨φ, st.le h⟩ Tpk.refl
/-- never come to -/
theorem rb_dead {tu : TS} : RB K T C (tSeq (fun _ _ _ => False) tu) ρ (fun _ _ => False : M (Ctl R B S)) ρn ρb := fun Bs po hC σ H n st P p D h1 h2 h3 => p.elim
theorem rb_freeze {t : TS} {i : Nat} {d : PyData} {m : M (Ctl R B S)} {ρ2 : List Sl} (hi : ρ[i]? = some (.own d)) (e : ρ.set i (.bor d) = ρ2) (h : RB K T C t ρ2 m ρn ρb) : RB K T C t ρ m ρn ρb := fun Bs po hC σ H n ⟨φ, st⟩ P p D h1 h2 h3 => by
  have st2 := st.freeze hi
  rw [e] at st2
  exact h.go (Bs := Bs) hC ⟨φ, st2⟩ p (fun b o z => .inl z) Tpk.refl h1 h2 h3
def seqW (m : M (Ctl R B S)) (k : S → M (Ctl R B S2)) : M (Ctl R B S2) := fun n P => m n fun c n' => match c with
  | .nxt s => k s n' P
  | .ret r => P (.ret r) n'
  | .brk b => P (.brk b) n'
theorem rb_if {c : TT} {tA tB tu : TS} {mc : M Bool} {mA mB : M (Ctl R B S2)} {ρ1 : S2 → List Sl} {k : S2 → M (Ctl R B S)} (hc : RT K T c ρ mc) (hA : RB K T C tA ρ mA ρ1 ρb) (hB : RB K T C tB ρ mB ρ1 ρb) (hu : ∀ s, RB K T C tu (ρ1 s) (k s) ρn ρb) :
    RB K T C (tSeq (tIfS c tA tB) tu) ρ (bindW mc fun b => seqW (if b = true then mA else mB) k) ρn ρb := fun Bs po hC σ H n ⟨φ, st⟩ P p D h1 h2 h3 => hc Bs po φ σ H n st _ p _ fun b n1 H1 pa a1 => by
  have key : ∀ {t : TS} {m : M (Ctl R B S2)}, RB K T C t ρ m ρ1 ρb → (seqW m k) n1 P → t { D with nx := fun σ' H' => tu D σ' H' } σ H1 := fun {t m} ht pm =>
    ht.go (Bs := Bs) hC ⟨φ, st.af a1⟩ (P := fun c n' => match c with | .nxt s => k s n' P | .ret r => P (.ret r) n' | .brk b => P (.brk b) n') pm (fun _ _ z => z) a1.fr.tup
      (fun s n' σ' H' Bs' p' sb st' tp' => (hu s).go (Bs := Bs) hC st' p' sb tp' h1 h2 h3) h2 h3
  cases b with
  | true => exact (if_pos rfl).mpr (key hA pa)
  | false => exact (if_neg (by decide)).mpr (key hB pa)
def forW0 {α : Type} (f : α → S → M (Ctl R S S)) : List α → S → M (Ctl R B S)
  | [], s => retW (.nxt s)
  | x :: xs, s => fun n P => f x s n fun c n' => match c with
    | .nxt s' => forW0 f xs s' n' P
    | .ret r => P (.ret r) n'
    | .brk s' => P (.nxt s') n'
omit [Enc R] in
theorem forW_ex {α : Type} (f : α → S → M (Ctl R S S)) : ∃ g : List α → S → M (Ctl R B S), (∀ s, g [] s = retW (.nxt s)) ∧ ∀ x xs s, g (x :: xs) s = fun n P => f x s n fun c n' => match c with
    | .nxt s' => g xs s' n' P
    | .ret r => P (.ret r) n'
    | .brk s' => P (.nxt s') n' := ⟨forW0 f, fun _ => rfl, fun _ _ _ => rfl⟩
/-- sealed: it isn't gone through of itself -/
noncomputable def forW {α : Type} (f : α → S → M (Ctl R S S)) : List α → S → M (Ctl R B S) := Classical.choose (forW_ex f)
omit [Enc R] in
theorem forW_nil {α : Type} {f : α → S → M (Ctl R S S)} {s : S} : (forW f [] s : M (Ctl R B S)) = retW (.nxt s) := (Classical.choose_spec (forW_ex f)).1 s
omit [Enc R] in
theorem forW_cons {α : Type} {f : α → S → M (Ctl R S S)} {x : α} {xs : List α} {s : S} : (forW f (x :: xs) s : M (Ctl R B S)) = fun n P => f x s n fun c n' => match c with
    | .nxt s' => forW f xs s' n' P
    | .ret r => P (.ret r) n'
    | .brk s' => P (.nxt s') n' := (Classical.choose_spec (forW_ex f)).2 x xs s
theorem rb_for {wi : TI} {g : TG} {tb tu : TS} {ts : List Nat} {mi : M (List α)} {s0 : S2} {f : α → S2 → M (Ctl R S2 S2)} {k : S2 → M (Ctl R B S)} {ρl : S2 → List Sl} {ρx : α → S2 → List Sl} (hi : RI K T wi ρ mi) (h0 : RhoLe (ρl s0) ρ) (hg : ∀ a s, RG K T ts g a (ρl s) (ρx a s))
    (hb : ∀ a s, RB K T C tb (ρx a s) (f a s) ρl ρl) (hu : ∀ s, RB K T C tu (ρl s) (k s) ρn ρb) : RB K T C (tSeq (tFor wi g tb) tu) ρ (bindW mi fun xs => seqW (forW f xs s0) k) ρn ρb := fun Bs po hC σ H n ⟨φ, st⟩ P p D h1 h2 h3 =>
  hi Bs po φ σ H n st _ p _ fun xs n1 J H1 fi pa a1 ok hfp hfi => by
    obtain ⟨⟨G, Y, w, g0, gs, gy⟩, hlst⟩ := ok
    have st1 := (st.af a1).le h0
    -- the lists gone through stand, too
    have st2 : ST K T (fun b o => Bs b o ∨ (b ∈ fi ∧ H1 b = some o)) po (ρl s0) φ σ H1 n1 := by
      refine ⟨st1.tabs, fun b o z => ?_, st1.pot, st1.len, fun i s e => ?_, st1.dis⟩
      · rcases z with z | ⟨z, e⟩
        · exact st1.base b o z
        · obtain ⟨l, hl⟩ := hlst b z
          rw [e] at hl
          cases hl
          exact ⟨e, fun ps q => (by cases q), hfp b z⟩
      · have z := st1.sl i s e
        cases s with
        | any => trivial
        | pot => exact z
        | scr ns => obtain ⟨a, z1, z2⟩ := z; exact ⟨a, z1, z2.elim (fun ⟨o, q1, q2⟩ => .inl ⟨o, .inl q1, q2⟩) .inr⟩
        | lkd d => exact z
        | borA v' fq d => exact ⟨z.1, z.2.1, fun b hb => ⟨(z.2.2 b hb).1, let ⟨o, q⟩ := (z.2.2 b hb).2; ⟨o, .inl q⟩⟩⟩
        | bor d => obtain ⟨v, z1, z2, z3⟩ := z; exact ⟨v, z1, z2, fun b hb => ⟨(z3 b hb).1, let ⟨o, q⟩ := (z3 b hb).2; ⟨o, .inl q⟩⟩⟩
        | own d =>
          obtain ⟨v, z1, z2, z3, z4⟩ := z
          refine ⟨v, z1, z2, z3, fun b hb => ⟨(z4 b hb).1, fun o q => ?_⟩⟩
          rcases q with q | ⟨q, _⟩
          · exact (z4 b hb).2 o q
          · rcases hfi b q with ⟨o', z'⟩ | z'
            · exact (z4 b hb).2 o' z'
            · obtain ⟨t, ht, hle⟩ := h0.get e
              cases hle
              exact st.fresh_own z' ht hb
    refine for_it w (fun i σ' H' => ∃ (s : S2) (n' : Nat) (Bs' : Addr → HO → Prop), Sub (fun b o => Bs b o ∨ (b ∈ fi ∧ H1 b = some o)) Bs' ∧ STe K T Bs' po (ρl s) σ' H' n' ∧ G H' ∧ Tpk K H1 H' ∧ (forW f (xs.drop i) s : M (Ctl R B S2)) n' (fun c n' => match c with | .nxt s => k s n' P | .ret r => P (.ret r) n' | .brk b => P (.brk b) n')) ⟨s0, n1, _, fun _ _ z => z, ⟨φ, st2⟩, g0, Tpk.refl, by rw [List.drop_zero]; exact pa⟩ (fun i σ' H' _ z => by obtain ⟨_, _, _, _, _, z, _⟩ := z; exact z) ?_ ?_
    · rintro i x σ' HA HB hi' ⟨s, n', Bs', sub, ⟨φ', st'⟩, gA, tpA, pl⟩ hy
      obtain ⟨a, ha, sAB, imx⟩ := gy i HA x HB hi' gA hy
      have stB := st'.af (Af.same sAB)
      have hdr : xs.drop i = a :: xs.drop (i + 1) := by
        rw [List.drop_eq_getElem_cons hi']
        congr 1
        exact Option.some.inj ((List.getElem?_eq_getElem hi').symm.trans ha)
      rw [hdr, forW_cons] at pl
      refine hg a s Bs' po φ' σ' HB n' stB x [] imx List.nodup_nil (fun b hb => absurd hb List.not_mem_nil) _ fun σ2 φ2 stx _ _ => ?_
      have subB : Sub Bs Bs' := fun b o z => sub b o (.inl z)
      have tpAB : Tpk K H HB := Tpk.trans (Tpk.trans a1.fr.tup tpA) fun _ _ e => sAB _ _ e
      -- what goes on holds the lists as they were
      have keep : ∀ (Bs2 : Addr → HO → Prop) (s2 : S2) σ3 HC n3, Sub Bs' Bs2 → STe K T Bs2 po (ρl s2) σ3 HC n3 → Tpk K HB HC → G HC := fun Bs2 s2 σ3 HC n3 sb ⟨φ3, st3⟩ tp3 => by
        refine gs HA HC (fun b hb l e => ?_) (fun b l e => tp3 b l (sAB _ _ e)) (fun b hb => ?_) gA
        · obtain ⟨l', hl'⟩ := hlst b hb
          have z1 := (st'.base b _ (sub b _ (.inr ⟨hb, hl'⟩))).1
          rw [e] at z1
          have z2 : l = l' := by injection z1 with z1; injection z1
          have z3 := (st3.base b _ (sb b _ (sub b _ (.inr ⟨hb, hl'⟩)))).1
          rw [z2]
          exact z3
        · obtain ⟨l', hl'⟩ := hlst b hb
          exact ⟨l', hl', (st'.base b _ (sub b _ (.inr ⟨hb, hl'⟩))).1⟩
      refine (hb a s).go (Bs := Bs') hC ⟨φ2, stx⟩ pl (fun _ _ z => z) (Tpk.refl) (fun s2 n2 σ3 H3 Bs3 p3 sb3 st3 tp3 => ?_) (fun s2 n2 σ3 H3 Bs3 p3 sb3 st3 tp3 => ?_) fun r n2 v H3 fp p3 tb bs pt tp3 im nd hf => ?_
      · exact ⟨s2, n2, Bs3, fun b o z => sb3 b o (sub b o z), st3, keep Bs3 s2 σ3 H3 n2 sb3 st3 tp3, Tpk.trans tpA (Tpk.trans (fun _ _ e => sAB _ _ e) tp3), p3⟩
      · exact (hu s2).go (Bs := Bs) hC st3 p3 (fun b o z => sb3 b o (subB b o z)) (Tpk.trans tpAB tp3) h1 h2 h3
      · exact h3 r n2 v H3 fp p3 tb (fun b o z => bs b o (subB b o z)) pt (Tpk.trans tpAB tp3) im nd fun b hb => ⟨(hf b hb).1, fun o z => (hf b hb).2 o (subB b o z)⟩
    · rintro σ' HA ⟨s, n', Bs', sub, st', gA, tpA, pl⟩
      rw [List.drop_length, forW_nil] at pl
      exact (hu s).go (Bs := Bs) hC st' pl (fun b o z => sub b o (.inl z)) (Tpk.trans a1.fr.tup tpA) h1 h2 h3
/-- while c: body -/
def whileW (c : S → M Bool) (b : S → M (Ctl R S S)) (s0 : S) : M (Ctl R B S) := fun n P => ∃ I : Nat → S → Nat → Prop, (∃ k, I k s0 n) ∧ ∀ k s n, I k s n → c s n fun t n1 => if t = true then b s n1 fun x n2 => match x with
    | .nxt s' => ∃ k', k' < k ∧ I k' s' n2
    | .ret r => P (.ret r) n2
    | .brk s' => P (.nxt s') n2
  else P (.nxt s) n1
theorem rb_while {tc : TT} {tb tu : TS} {s0 : S2} {c : S2 → M Bool} {f : S2 → M (Ctl R S2 S2)} {k : S2 → M (Ctl R B S)} {ρl : S2 → List Sl} (h0 : RhoLe (ρl s0) ρ) (hc : ∀ s, RT K T tc (ρl s) (c s)) (hb : ∀ s, RB K T C tb (ρl s) (f s) ρl ρl) (hu : ∀ s, RB K T C tu (ρl s) (k s) ρn ρb) :
    RB K T C (tSeq (tWhile tc tb) tu) ρ (seqW (whileW c f s0) k) ρn ρb := fun Bs po hC σ H n ⟨φ, st⟩ P p D h1 h2 h3 => by
  obtain ⟨I, ⟨k0, i0⟩, step⟩ := p
  refine ⟨fun m σ' H' => ∃ (s : S2) (n' : Nat) (Bs' : Addr → HO → Prop), Sub Bs Bs' ∧ STe K T Bs' po (ρl s) σ' H' n' ∧ Tpk K H H' ∧ I m s n', ⟨k0, s0, n, Bs, fun _ _ z => z, ⟨φ, st.le h0⟩, Tpk.refl, i0⟩, ?_⟩
  rintro m σ' HA ⟨s, n', Bs', sub, ⟨φ', st'⟩, tpA, im⟩
  refine hc s Bs' po φ' σ' HA n' st' _ (step m s n' im) _ fun t n1 H1 pa a1 => ?_
  have stB := st'.af a1
  cases t with
  | false => exact (if_neg (by decide)).mpr ((hu s).go (Bs := Bs) hC ⟨φ', stB⟩ pa sub (Tpk.trans tpA a1.fr.tup) h1 h2 h3)
  | true =>
    refine (if_pos rfl).mpr ⟨fun σ' H' => ∃ m', m' < m ∧ ∃ (s : S2) (n' : Nat) (Bs' : Addr → HO → Prop), Sub Bs Bs' ∧ STe K T Bs' po (ρl s) σ' H' n' ∧ Tpk K H H' ∧ I m' s n', fun _ _ z => z, ?_⟩
    refine (hb s).go (Bs := Bs') hC ⟨φ', stB⟩ pa (fun _ _ z => z) Tpk.refl (fun s2 n2 σ3 H3 Bs3 p3 sb3 st3 tp3 => ?_) (fun s2 n2 σ3 H3 Bs3 p3 sb3 st3 tp3 => ?_) fun r n2 v H3 fp p3 tb bs pt tp3 im nd hf => ?_
    · obtain ⟨k', hk, ik⟩ := p3
      exact ⟨k', hk, s2, n2, Bs3, fun b o z => sb3 b o (sub b o z), st3, Tpk.trans (Tpk.trans tpA a1.fr.tup) tp3, ik⟩
    · exact (hu s2).go (Bs := Bs) hC st3 p3 (fun b o z => sb3 b o (sub b o z)) (Tpk.trans (Tpk.trans tpA a1.fr.tup) tp3) h1 h2 h3
    · exact h3 r n2 v H3 fp p3 tb (fun b o z => bs b o (sub b o z)) pt (Tpk.trans (Tpk.trans tpA a1.fr.tup) tp3) im nd fun b hb => ⟨(hf b hb).1, fun o z => (hf b hb).2 o (sub b o z)⟩
/-- a pot is made: what is drawn is drawn from it -/
def NoPot : List Sl → Prop
  | [] => True
  | .pot :: _ => False
  | _ :: ss => NoPot ss
theorem NoPot.get : ∀ {ρ : List Sl}, NoPot ρ → ∀ i : Nat, ρ[i]? = some Sl.pot → False
  | [], _, i, e => by cases e
  | s :: ss, h, 0, e => by
    obtain rfl : s = Sl.pot := Option.some.inj e
    exact h
  | s :: ss, h, i + 1, e => by
    have : NoPot ss := by cases s <;> first | exact h | exact h.elim
    exact NoPot.get this i e
theorem ST.unpot {Bs : Addr → HO → Prop} {po : Option Addr} {ρ : List Sl} {φ : Nat → List Addr} {σ : L2.St} {H : Hp} {n n2 : Nat} (h : ST K T Bs po ρ φ σ H n) (hp : NoPot ρ) : ST K T Bs none ρ φ σ H n2 where
  tabs := h.tabs
  base := fun b o z => ⟨(h.base b o z).1, (h.base b o z).2.1, by simp⟩
  pot := fun a e => nomatch e
  len := h.len
  sl := fun i s e => by
    have z := h.sl i s e
    cases s with
    | any => trivial
    | pot => exact (hp.get i e).elim
    | scr ns => exact z
    | lkd d => obtain ⟨a, od, u, z1, z2, z3⟩ := z; exact ⟨a, od, u, z1, by simp, z3⟩
    | borA v' fq d => exact ⟨z.1, z.2.1, fun b hb => ⟨by simp, (z.2.2 b hb).2⟩⟩
    | bor d => obtain ⟨v, z1, z2, z3⟩ := z; exact ⟨v, z1, z2, fun b hb => ⟨by simp, (z3 b hb).2⟩⟩
    | own d => obtain ⟨v, z1, z2, z3, z4⟩ := z; exact ⟨v, z1, z2, z3, fun b hb => ⟨by simp, (z4 b hb).2⟩⟩
  dis := h.dis
def potW {R B S : Type} (c : Prop) (m : M (Ctl R B S)) : M (Ctl R B S) := fun n P => c ∧ m 0 fun x _ => P x n
theorem rb_newpot {te : TE} {tu : TS} {i : Nat} {c : Prop} {m : M (Ctl R B S)} {ρ2 : List Sl} (he : ∀ (Bs : Addr → HO → Prop) (φ : Nat → List Addr) (σ : L2.St) (H : Hp) (n : Nat), ST K T Bs none ρ φ σ H n → c → ∀ Q : VK, (∀ a H', Same H H' → H a = none → Pot H' a 0 → Q (.ref a) H') → te σ H Q)
    (hi : i < ρ.length) (h0 : NoPot ρ) (e : ρ.set i .pot = ρ2) (hu : RB K T (fun _ => True) tu ρ2 m ρn ρb) (hn : ∀ s, NoPot (ρn s)) (hb : ∀ s, NoPot (ρb s)) : RB K T (fun po => po = none) (tSeq (tAsg te (gName i)) tu) ρ (potW c m) ρn ρb :=
  fun Bs po hC σ H n ⟨φ, st⟩ P p D h1 h2 h3 => by
    subst hC
    refine he Bs φ σ H n st p.1 _ fun a H' s na pt => ?_
    have st1 := st.af (Af.same s (n := n))
    have fa : Fsh H a := fun o e => by rw [na] at e; cases e
    have st2 : ST K T Bs (some a) ρ2 φ (σ.set i (some (.ref a))) H' 0 := by
      subst e
      refine ⟨st1.tabs, fun b o z => ⟨(st1.base b o z).1, (st1.base b o z).2.1, fun w => st.fresh_bs fa o (by rw [Option.some.inj w]; exact z)⟩, fun b w => by rw [← Option.some.inj w]; exact pt, by rw [List.length_set, List.length_set, st1.len], fun j x ej => ?_, fun j k d1 d2 hjk ej ek => ?_⟩
      · rw [List.getElem?_set] at ej ⊢
        by_cases hij : i = j
        · subst hij
          rw [if_pos rfl, if_pos hi] at ej
          obtain rfl := Option.some.inj ej
          rw [if_pos rfl, if_pos (by rw [st1.len]; exact hi)]
          exact ⟨a, rfl, rfl⟩
        · rw [if_neg hij] at ej ⊢
          have z := st1.sl j x ej
          cases x with
          | any => trivial
          | pot => exact (h0.get j ej).elim
          | scr ns => exact z
          | borA v' fq d => exact ⟨z.1, z.2.1, fun b hb => ⟨fun w => by obtain ⟨o, q⟩ := (z.2.2 b hb).2; exact st.fresh_bs fa o (by rw [Option.some.inj w]; exact q), (z.2.2 b hb).2⟩⟩
          | lkd d =>
            obtain ⟨b, od, u, z1, z2, z3, z4⟩ := z
            have hne : (some a : Option Addr) ≠ some b := fun w => by
              obtain ⟨x, y, z, hH, _⟩ := pt
              rw [Option.some.inj w, z3] at hH
              cases hH
            exact ⟨b, od, u, z1, hne, z3, z4⟩
          | bor d =>
            obtain ⟨v, z1, z2, z3⟩ := z
            exact ⟨v, z1, z2, fun b hb => ⟨fun w => by obtain ⟨o, q⟩ := (z3 b hb).2; exact st.fresh_bs fa o (by rw [Option.some.inj w]; exact q), (z3 b hb).2⟩⟩
          | own d =>
            obtain ⟨v, z1, z2, z3, z4⟩ := z
            exact ⟨v, z1, z2, z3, fun b hb => ⟨fun w => st.fresh_own fa ej (by rw [Option.some.inj w]; exact hb), (z4 b hb).2⟩⟩
      · rw [List.getElem?_set] at ej ek
        by_cases hij : i = j
        · rw [if_pos hij] at ej; split at ej <;> cases ej
        · rw [if_neg hij] at ej
          by_cases hik : i = k
          · rw [if_pos hik] at ek; split at ek <;> cases ek
          · rw [if_neg hik] at ek
            exact st1.dis j k d1 d2 hjk ej ek
    have tp : Tpk K H H' := fun _ _ z => s _ _ z
    refine hu Bs (some a) trivial _ H' 0 ⟨φ, st2⟩ _ p.2 D (fun s' n' σ' H'' Bs' p' sb ⟨φ', st'⟩ tp' => ?_) (fun s' n' σ' H'' Bs' p' sb ⟨φ', st'⟩ tp' => ?_) fun r n' v H'' fp p' tb bs pt' tp' im nd hf => ?_
    · exact h1 s' n σ' H'' Bs' p' sb ⟨φ', st'.unpot (hn s')⟩ (Tpk.trans tp tp')
    · exact h2 s' n σ' H'' Bs' p' sb ⟨φ', st'.unpot (hb s')⟩ (Tpk.trans tp tp')
    · exact h3 r n v H'' fp p' tb bs (fun a z => nomatch z) (Tpk.trans tp tp') im nd fun b hb => ⟨by simp, (hf b hb).2⟩
theorem re_lenS {i : Nat} {ns : List Int} (hi : ρ[i]? = some (.scr ns)) : RE K T (tCB (fun xs H Q => ∃ p ys, xs = [.ref p] ∧ (SqL K H p ys ∨ SqT K H p ys) ∧ Q (.int ys.length) H) (tCons (tVar i) tNil)) ρ true (retW ns.length) := fun Bs po φ σ H n st P p Q q => by
  obtain ⟨a, h1, h2⟩ := st.sl i _ hi
  have hS : SqL K H a (ns.map V.int) := by
    rcases h2 with ⟨o, z1, z2⟩ | z
    · have := (st.base a o z1).1
      rcases z2 with rfl | ⟨w, rfl⟩
      · exact .inl (.inl this)
      · exact .inl (.inr ⟨w, this⟩)
    · exact .inr z
  exact ⟨_, h1, a, _, rfl, .inl hS, q _ n _ H [] p Af.refl (by rw [List.length_map]; exact .int _) Fp.nil⟩
theorem scr_sql {Bs : Addr → HO → Prop} {po : Option Addr} {ρ : List Sl} {φ : Nat → List Addr} {σ : L2.St} {H : Hp} {n i : Nat} {ns : List Int} (st : ST K T Bs po ρ φ σ H n) (hi : ρ[i]? = some (.scr ns)) : ∃ a, σ[i]? = some (some (.ref a)) ∧ SqL K H a (ns.map V.int) := by
  obtain ⟨a, h1, h2⟩ := st.sl i _ hi
  refine ⟨a, h1, ?_⟩
  rcases h2 with ⟨o, z1, z2⟩ | z
  · have := (st.base a o z1).1
    rcases z2 with rfl | ⟨w, rfl⟩
    · exact .inl (.inl this)
    · exact .inl (.inr ⟨w, this⟩)
  · exact .inr z
/-! ### a def from its start on -/
def outW {R B S : Type} (m : M (Ctl R B S)) : M R := fun n P => m n fun c n' => match c with
  | .ret r => P r n'
  | _ => False
def PSl (K : PySem.W.Frag) {α : Type} [Enc α] (s : α → Sl) : Prop := ∀ (Bs : Addr → HO → Prop) (po : Option Addr) (H : Hp) (a : α) (v : V) (fp : List Addr), Im K H v (enc a) fp → (∀ b ∈ fp, po ≠ some b ∧ ∃ o, Bs b o) → SlOk K Bs po H (some (some v)) (s a) fp ∧ ∀ d, s a = .own d → fp = []
theorem psl_own [Pu α] : PSl K (fun a : α => .own (enc a)) := fun Bs po H a v fp im h => by
  have z := Pu.pu im
  subst z
  exact ⟨⟨v, rfl, im, List.nodup_nil, fun b hb => absurd hb List.not_mem_nil⟩, fun _ _ => rfl⟩
theorem psl_bor : PSl K (fun a : α => .bor (enc a)) := fun Bs po H a v fp im h => ⟨⟨v, rfl, im, h⟩, fun d e => nomatch e⟩
theorem st_start {Bs : Addr → HO → Prop} {po : Option Addr} {H : Hp} {n : Nat} {N : List Str} {ss : List Sl} {vs : List V} {fps : List (List Addr)} {ρ : List Sl} (tb : Tabs T H) (hb : ∀ b o, Bs b o → H b = some o ∧ (∀ ps, o ≠ .tbl ps) ∧ po ≠ some b) (hp : ∀ a, po = some a → Pot H a n)
    (hl : vs.length = ss.length) (hs : ∀ i s, ss[i]? = some s → SlOk K Bs po H (vs[i]?.map some) s (fps.getD i [])) (ho : ∀ i d, ss[i]? = some (.own d) → fps.getD i [] = []) (e : ss ++ List.replicate (N.length - ss.length) Sl.any = ρ) : ST K T Bs po ρ (fun i => fps.getD i []) (L2.start N vs) H n := by
  subst e
  have get : ∀ i s, (ss ++ List.replicate (N.length - ss.length) Sl.any)[i]? = some s → ss[i]? = some s ∨ s = Sl.any := fun i s h => by
    by_cases hi : i < ss.length
    · rw [List.getElem?_append_left hi] at h
      exact .inl h
    · rw [List.getElem?_append_right (by omega)] at h
      exact .inr (List.eq_of_mem_replicate (List.mem_of_getElem? h))
  refine ⟨tb, hb, hp, ?_, fun i s h => ?_, fun i j d e hij ei ej => ?_⟩
  · unfold L2.start
    rw [List.length_append, List.length_append, List.length_map, List.length_replicate, List.length_replicate, hl]
  · rcases get i s h with h | rfl
    · have hi := (List.getElem?_eq_some_iff.mp h).1
      have e : (L2.start N vs)[i]? = vs[i]?.map some := by
        unfold L2.start
        rw [List.getElem?_append_left (by rw [List.length_map, hl]; exact hi), List.getElem?_map]
      rw [e]
      exact hs i s h
    · trivial
  · rcases get i _ ei with h | h
    · rw [ho i d h]
      exact fun b hb => absurd hb List.not_mem_nil
    · cases h
/-- what a def tells at its end, nothing drawn -/
theorem end_pure {t : TS} {ρ : List Sl} {mB : M (Ctl R B S)} {H : Hp} {σ : L2.St} {Q : VK} {D : Ends} {P0 : R → Nat → Prop} (hr : RB K T C t ρ mB ρn ρb) (hC : C none) (hD : D.rt = Q)
    (st : STe K T (fun b o => H b = some o ∧ ∀ ps, o ≠ .tbl ps) none ρ σ H 0) (h : outW mB 0 P0) (hq : ∀ r c v' H' fp, P0 r c → Af K T none H 0 H' 0 → Im K H' v' (enc r) fp → fp.Nodup → (∀ b ∈ fp, Fsh H b) → Q v' H') : t D σ H := by
  refine hr _ none hC σ H 0 st _ h D (fun s n' σ' H' Bs' p => p.elim) (fun s n' σ' H' Bs' p => p.elim) fun r n' v H' fp p tb bs pt tp im nd hf => ?_
  rw [hD]
  refine hq r n' v H' fp p ⟨⟨fun b o _ e t => bs b o ⟨e, t⟩, tp⟩, fun _ => tb, fun a z => nomatch z⟩ im nd fun b hb o e => ?_
  by_cases z : ∃ ps, o = .tbl ps
  · exact z
  · exact ((hf b hb).2 o ⟨e, fun ps q => z ⟨ps, q⟩⟩).elim
theorem end_pot {t : TS} {ρ : List Sl} {mB : M (Ctl R B S)} {H : Hp} {σ : L2.St} {Q : VK} {D : Ends} {q : Addr} {n : Nat} {P0 : R → Nat → Prop} (hr : RB K T C t ρ mB ρn ρb) (hC : C (some q)) (hD : D.rt = Q)
    (st : STe K T (fun b o => H b = some o ∧ (∀ ps, o ≠ .tbl ps) ∧ b ≠ q) (some q) ρ σ H n) (h : outW mB n P0) (hq : ∀ r n' v' H' fp, P0 r n' → Af K T (some q) H n H' n' → Im K H' v' (enc r) fp → fp.Nodup → (∀ b ∈ fp, b ≠ q ∧ Fsh H b) → Q v' H') : t D σ H := by
  refine hr _ (some q) hC σ H n st _ h D (fun s n' σ' H' Bs' p => p.elim) (fun s n' σ' H' Bs' p => p.elim) fun r n' v H' fp p tb bs pt tp im nd hf => ?_
  rw [hD]
  refine hq r n' v H' fp p ⟨⟨fun b o hb e t => bs b o ⟨e, t, fun z => hb (by rw [z])⟩, tp⟩, fun _ => tb, fun a z _ => pt a z⟩ im nd fun b hb => ⟨fun w => (hf b hb).1 (by rw [w]), fun o e => ?_⟩
  by_cases z : ∃ ps, o = .tbl ps
  · exact z
  · exact ((hf b hb).2 o ⟨e, fun ps q => z ⟨ps, q⟩, fun w => (hf b hb).1 (by rw [w])⟩).elim
end
end Bf
namespace Bf
open PySem PySem.Spec PyProof.Rows L2 LamX NdefX
section
variable {K : PySem.W.Frag} {T : List (Addr × Str)} {ρ : List Sl}
theorem lists_bs {H : Hp} {v : V} {d : PyData} {fp : List Addr} (h : Im K H v d fp) : ∀ b ∈ fp, (none : Option Addr) ≠ some b ∧ ∃ o, H b = some o ∧ ∀ ps, o ≠ .tbl ps := fun b hb => by
  obtain ⟨l, hl, hm⟩ := Im.mtb _ _ _ h b hb
  exact ⟨by simp, _, hl, hm.tbl⟩
theorem lists_bp {H : Hp} {v : V} {d : PyData} {fp : List Addr} {q : Addr} (h : Im K H v d fp) (hq : ∀ b ∈ fp, b ≠ q) : ∀ b ∈ fp, some q ≠ some b ∧ ∃ o, H b = some o ∧ (∀ ps, o ≠ .tbl ps) ∧ b ≠ q := fun b hb => by
  obtain ⟨l, hl, hm⟩ := Im.mtb _ _ _ h b hb
  exact ⟨fun e => hq b hb (Option.some.inj e).symm, _, hl, hm.tbl, hq b hb⟩
theorem keep_pot {H H' : Hp} {n : Nat} {a : Addr} {c c' : Nat} (af : Af K T none H c H' c') (z : Pot H a n) : Pot H' a n := by
  obtain ⟨x, y, w, e, h⟩ := z
  exact ⟨x, y, w, af.fr.keep a _ (by simp) e (fun ps q => nomatch q), h⟩
def c1W {α1 R : Type} (m1 : M α1) (g : α1 → M R) : M R := fun n P => m1 n fun a1 n1 => g a1 n1 P
def c2W {α1 α2 R : Type} (m1 : M α1) (m2 : M α2) (g : α1 → α2 → M R) : M R := fun n P => m1 n fun a1 n1 => m2 n1 fun a2 n2 => g a1 a2 n2 P
def c3W {α1 α2 α3 R : Type} (m1 : M α1) (m2 : M α2) (m3 : M α3) (g : α1 → α2 → α3 → M R) : M R := fun n P => m1 n fun a1 n1 => m2 n1 fun a2 n2 => m3 n2 fun a3 n3 => g a1 a2 a3 n3 P
def c4W {α1 α2 α3 α4 R : Type} (m1 : M α1) (m2 : M α2) (m3 : M α3) (m4 : M α4) (g : α1 → α2 → α3 → α4 → M R) : M R := fun n P => m1 n fun a1 n1 => m2 n1 fun a2 n2 => m3 n2 fun a3 n3 => m4 n3 fun a4 n4 => g a1 a2 a3 a4 n4 P
def c5W {α1 α2 α3 α4 α5 R : Type} (m1 : M α1) (m2 : M α2) (m3 : M α3) (m4 : M α4) (m5 : M α5) (g : α1 → α2 → α3 → α4 → α5 → M R) : M R := fun n P => m1 n fun a1 n1 => m2 n1 fun a2 n2 => m3 n2 fun a3 n3 => m4 n3 fun a4 n4 => m5 n4 fun a5 n5 => g a1 a2 a3 a4 a5 n5 P
def c6W {α1 α2 α3 α4 α5 α6 R : Type} (m1 : M α1) (m2 : M α2) (m3 : M α3) (m4 : M α4) (m5 : M α5) (m6 : M α6) (g : α1 → α2 → α3 → α4 → α5 → α6 → M R) : M R := fun n P => m1 n fun a1 n1 => m2 n1 fun a2 n2 => m3 n2 fun a3 n3 => m4 n3 fun a4 n4 => m5 n4 fun a5 n5 => m6 n5 fun a6 n6 => g a1 a2 a3 a4 a5 a6 n6 P
def c7W {α1 α2 α3 α4 α5 α6 α7 R : Type} (m1 : M α1) (m2 : M α2) (m3 : M α3) (m4 : M α4) (m5 : M α5) (m6 : M α6) (m7 : M α7) (g : α1 → α2 → α3 → α4 → α5 → α6 → α7 → M R) : M R := fun n P => m1 n fun a1 n1 => m2 n1 fun a2 n2 => m3 n2 fun a3 n3 => m4 n3 fun a4 n4 => m5 n4 fun a5 n5 => m6 n5 fun a6 n6 => m7 n6 fun a7 n7 => g a1 a2 a3 a4 a5 a6 a7 n7 P
def c8W {α1 α2 α3 α4 α5 α6 α7 α8 R : Type} (m1 : M α1) (m2 : M α2) (m3 : M α3) (m4 : M α4) (m5 : M α5) (m6 : M α6) (m7 : M α7) (m8 : M α8) (g : α1 → α2 → α3 → α4 → α5 → α6 → α7 → α8 → M R) : M R := fun n P => m1 n fun a1 n1 => m2 n1 fun a2 n2 => m3 n2 fun a3 n3 => m4 n3 fun a4 n4 => m5 n4 fun a5 n5 => m6 n5 fun a6 n6 => m7 n6 fun a7 n7 => m8 n7 fun a8 n8 => g a1 a2 a3 a4 a5 a6 a7 a8 n8 P
def spW0 (K : PySem.W.Frag) (T : List (Addr × Str)) {R : Type}  [Enc R] (f : M R) : Sp := fun vs H Q _ => vs = [] ∧ (True) ∧ Tabs T H ∧ ∃ P0 : R → Nat → Prop, f  0 P0 ∧ ∀ r c v' H' fp, P0 r c → Af K T none H 0 H' 0 → Im K H' v' (enc r) fp → fp.Nodup → (∀ b ∈ fp, Fsh H b) → Q v' H'
theorem spW0_len {R : Type}  [Enc R] {f : M R} {vs : List V} {H : Hp} {Q : VK} {E : XK} (h : spW0 K T f vs H Q E) : vs.length = 0 := by
  obtain ⟨rfl, _⟩ := h
  rfl
theorem w0_run {R : Type}  [Enc R] {B S : Type} {N : List Str}  {ρ : List Sl} (e : [] ++ List.replicate (N.length - 0) Sl.any = ρ ) {t : TS} {mB : M (Ctl R B S)} {ρn : S → List Sl} {ρb : B → List Sl} {C : Option Addr → Prop} (hC : C none) (hr : RB K T C t (ρ ) (mB ) ρn ρb)
    {vs : List V} {H : Hp} {Q : VK} {E : XK} (h : spW0 K T (outW (mB )) vs H Q E) : t { nx := fun _ H' => Q .non H', rt := Q } (L2.start N vs) H := by
  obtain ⟨rfl, _, tb, P0, h, hq⟩ := h
  refine end_pure (hr ) hC rfl ⟨_, st_start (ss := []) (fps := []) tb (fun b o z => ⟨z.1, z.2, by simp⟩) (fun a z => nomatch z) rfl (fun i s hi => ?_) (fun i d hi => ?_) (e )⟩ h hq
  · match i, hi with
    | i + 0, hi => cases hi
  · match i, hi with
    | i + 0, hi => cases hi
theorem re_call0 {R : Type}  [Enc R] {f : M R} {E : XK}  : RE K T (tCall (spW0 K T f) [] E tNil) ρ true (pureW f) := fun Bs po φ σ H n st P p Q q =>
  ⟨rfl, trivial, st.tabs, _, p, fun r c v' H' fp pr af im nd hf => q r n v' H' fp pr (⟨Fr.weak af.fr, af.tabs, fun a e z => keep_pot af z⟩) im (⟨fun b hb => st.fresh_pot (hf b hb), fun _ => ⟨nd, hf⟩⟩)⟩
def spP0 (K : PySem.W.Frag) (T : List (Addr × Str)) {R : Type}  [Enc R] (f : M R) : Sp := fun vs H Q _ => ∃ (q : Addr) (n : Nat)  , vs = [.ref q] ∧ (True) ∧ Tabs T H ∧ Pot H q n ∧ ∃ P0 : R → Nat → Prop, f  n P0 ∧ ∀ r n' v' H' fp, P0 r n' → Af K T (some q) H n H' n' → Im K H' v' (enc r) fp → fp.Nodup → (∀ b ∈ fp, b ≠ q ∧ Fsh H b) → Q v' H'
theorem spP0_len {R : Type}  [Enc R] {f : M R} {vs : List V} {H : Hp} {Q : VK} {E : XK} (h : spP0 K T f vs H Q E) : vs.length = 1 := by
  obtain ⟨q, n, rfl, _⟩ := h
  rfl
theorem p0_run {R : Type}  [Enc R] {B S : Type} {N : List Str}  {ρ : List Sl} (e : [Sl.pot] ++ List.replicate (N.length - 1) Sl.any = ρ ) {t : TS} {mB : M (Ctl R B S)} {ρn : S → List Sl} {ρb : B → List Sl} {C : Option Addr → Prop} (hC : ∀ q, C (some q)) (hr : RB K T C t (ρ ) (mB ) ρn ρb)
    {vs : List V} {H : Hp} {Q : VK} {E : XK} (h : spP0 K T (outW (mB )) vs H Q E) : t { nx := fun _ H' => Q .non H', rt := Q } (L2.start N vs) H := by
  obtain ⟨q, n, rfl, _, tb, pp, P0, h, hq⟩ := h
  refine end_pot (hr ) (hC q) rfl ⟨_, st_start (ss := [Sl.pot]) (fps := [[]]) tb (fun b o z => ⟨z.1, z.2.1, fun w => z.2.2 (Option.some.inj w).symm⟩) (fun a z => by rw [← Option.some.inj z]; exact pp) rfl (fun i s hi => ?_) (fun i d hi => ?_) (e )⟩ h hq
  · match i, hi with
    | 0, hi =>
      obtain rfl := Option.some.inj hi
      exact ⟨q, rfl, rfl⟩
    | i + 1, hi => cases hi
  · match i, hi with
    | 0, hi => cases hi
    | i + 1, hi => cases hi
theorem re_callp0 {R : Type}  [Enc R] {f : M R} {E : XK} {ip : Nat} (hpot : ρ[ip]? = some .pot)  : RE K T (tCall (spP0 K T f) [] E (tCons (tVar ip) tNil)) ρ true f := fun Bs po φ σ H n st P p Q q =>
  let ⟨u, e1, e2⟩ := st.sl ip _ hpot
  ⟨_, e2,
  ⟨u, n, rfl, trivial, st.tabs, st.pot u e1, _, p, fun r c v' H' fp pr af im nd hf => q r c v' H' fp pr ((by rw [e1]; exact af)) im (⟨fun b hb => by rw [e1]; exact fun z => (hf b hb).1 (Option.some.inj z).symm, fun _ => ⟨nd, fun b hb => (hf b hb).2⟩⟩)⟩⟩
def spW1 (K : PySem.W.Frag) (T : List (Addr × Str)) {α1 R : Type} [Enc α1] [Enc R] (f : α1 → M R) : Sp := fun vs H Q _ => ∃ (a1 : α1) (v1 : V) (f1 : List Addr), vs = [v1] ∧ (Im K H v1 (enc a1) f1) ∧ Tabs T H ∧ ∃ P0 : R → Nat → Prop, f a1 0 P0 ∧ ∀ r c v' H' fp, P0 r c → Af K T none H 0 H' 0 → Im K H' v' (enc r) fp → fp.Nodup → (∀ b ∈ fp, Fsh H b) → Q v' H'
theorem spW1_len {α1 R : Type} [Enc α1] [Enc R] {f : α1 → M R} {vs : List V} {H : Hp} {Q : VK} {E : XK} (h : spW1 K T f vs H Q E) : vs.length = 1 := by
  obtain ⟨a1, v1, f1, rfl, _⟩ := h
  rfl
theorem w1_run {α1 R : Type} [Enc α1] [Enc R] {B S : Type} {N : List Str} {s1 : α1 → Sl} (p1 : PSl K s1) {ρ : α1 → List Sl} (e : ∀ a1, [s1 a1] ++ List.replicate (N.length - 1) Sl.any = ρ a1) {t : TS} {mB : α1 → M (Ctl R B S)} {ρn : S → List Sl} {ρb : B → List Sl} {C : Option Addr → Prop} (hC : C none) (hr : ∀ a1, RB K T C t (ρ a1) (mB a1) ρn ρb)
    {vs : List V} {H : Hp} {Q : VK} {E : XK} (h : spW1 K T (fun a1 => outW (mB a1)) vs H Q E) : t { nx := fun _ H' => Q .non H', rt := Q } (L2.start N vs) H := by
  obtain ⟨a1, v1, f1, rfl, i1, tb, P0, h, hq⟩ := h
  refine end_pure (hr a1) hC rfl ⟨_, st_start (ss := [s1 a1]) (fps := [f1]) tb (fun b o z => ⟨z.1, z.2, by simp⟩) (fun a z => nomatch z) rfl (fun i s hi => ?_) (fun i d hi => ?_) (e a1)⟩ h hq
  · match i, hi with
    | 0, hi =>
      obtain rfl := Option.some.inj hi
      exact (p1 _ _ _ _ _ _ i1 (lists_bs i1)).1
    | i + 1, hi => cases hi
  · match i, hi with
    | 0, hi => exact (p1 (fun b o => H b = some o ∧ ∀ ps, o ≠ .tbl ps) none H _ _ _ i1 (lists_bs i1)).2 _ (Option.some.inj hi)
    | i + 1, hi => cases hi
theorem re_call1 {α1 R : Type} [Enc α1] [Enc R] {f : α1 → M R} {E : XK} {t1 : TE} {m1 : M α1} {b1 : Bool} (h1 : RE K T t1 ρ b1 m1) : RE K T (tCall (spW1 K T f) [] E (tCons t1 tNil)) ρ true (c1W m1 fun a1 => pureW (f a1)) := fun Bs po φ σ H n st P p Q q =>
  h1 Bs po φ σ H n st _ p _ fun a1 n1 v1 H1 f1 p1 x1 i1 g1 =>
  ⟨_, _, _, rfl, i1, (st.af x1).tabs, _, p1, fun r c v' H' fp pr af im nd hf => q r n1 v' H' fp pr (Af.trans x1 ⟨Fr.weak af.fr, af.tabs, fun a e z => keep_pot af z⟩) im (Fp.back x1.fr ⟨fun b hb => (st.af x1).fresh_pot (hf b hb), fun _ => ⟨nd, hf⟩⟩)⟩
def spP1 (K : PySem.W.Frag) (T : List (Addr × Str)) {α1 R : Type} [Enc α1] [Enc R] (f : α1 → M R) : Sp := fun vs H Q _ => ∃ (q : Addr) (n : Nat) (a1 : α1) (v1 : V) (f1 : List Addr), vs = [.ref q, v1] ∧ (Im K H v1 (enc a1) f1 ∧ (∀ b ∈ f1, b ≠ q)) ∧ Tabs T H ∧ Pot H q n ∧ ∃ P0 : R → Nat → Prop, f a1 n P0 ∧ ∀ r n' v' H' fp, P0 r n' → Af K T (some q) H n H' n' → Im K H' v' (enc r) fp → fp.Nodup → (∀ b ∈ fp, b ≠ q ∧ Fsh H b) → Q v' H'
theorem spP1_len {α1 R : Type} [Enc α1] [Enc R] {f : α1 → M R} {vs : List V} {H : Hp} {Q : VK} {E : XK} (h : spP1 K T f vs H Q E) : vs.length = 2 := by
  obtain ⟨q, n, a1, v1, f1, rfl, _⟩ := h
  rfl
theorem p1_run {α1 R : Type} [Enc α1] [Enc R] {B S : Type} {N : List Str} {s1 : α1 → Sl} (p1 : PSl K s1) {ρ : α1 → List Sl} (e : ∀ a1, [Sl.pot, s1 a1] ++ List.replicate (N.length - 2) Sl.any = ρ a1) {t : TS} {mB : α1 → M (Ctl R B S)} {ρn : S → List Sl} {ρb : B → List Sl} {C : Option Addr → Prop} (hC : ∀ q, C (some q)) (hr : ∀ a1, RB K T C t (ρ a1) (mB a1) ρn ρb)
    {vs : List V} {H : Hp} {Q : VK} {E : XK} (h : spP1 K T (fun a1 => outW (mB a1)) vs H Q E) : t { nx := fun _ H' => Q .non H', rt := Q } (L2.start N vs) H := by
  obtain ⟨q, n, a1, v1, f1, rfl, ⟨i1, j1⟩, tb, pp, P0, h, hq⟩ := h
  refine end_pot (hr a1) (hC q) rfl ⟨_, st_start (ss := [Sl.pot, s1 a1]) (fps := [[], f1]) tb (fun b o z => ⟨z.1, z.2.1, fun w => z.2.2 (Option.some.inj w).symm⟩) (fun a z => by rw [← Option.some.inj z]; exact pp) rfl (fun i s hi => ?_) (fun i d hi => ?_) (e a1)⟩ h hq
  · match i, hi with
    | 0, hi =>
      obtain rfl := Option.some.inj hi
      exact ⟨q, rfl, rfl⟩
    | 1, hi =>
      obtain rfl := Option.some.inj hi
      exact (p1 _ _ _ _ _ _ i1 (lists_bp i1 j1)).1
    | i + 2, hi => cases hi
  · match i, hi with
    | 0, hi => cases hi
    | 1, hi => exact (p1 (fun b o => H b = some o ∧ (∀ ps, o ≠ .tbl ps) ∧ b ≠ q) (some q) H _ _ _ i1 (lists_bp i1 j1)).2 _ (Option.some.inj hi)
    | i + 2, hi => cases hi
theorem re_callp1 {α1 R : Type} [Enc α1] [Enc R] {f : α1 → M R} {E : XK} {ip : Nat} (hpot : ρ[ip]? = some .pot) {t1 : TE} {m1 : M α1} {b1 : Bool} (h1 : RE K T t1 ρ b1 m1) : RE K T (tCall (spP1 K T f) [] E (tCons (tVar ip) (tCons t1 tNil))) ρ true (c1W m1 f) := fun Bs po φ σ H n st P p Q q =>
  let ⟨u, e1, e2⟩ := st.sl ip _ hpot
  ⟨_, e2,
  h1 Bs po φ σ H n st _ p _ fun a1 n1 v1 H1 f1 p1 x1 i1 g1 =>
  ⟨u, n1, _, _, _, rfl, ⟨i1, fun b hb z => g1.1 b hb (by rw [z]; exact e1)⟩, (st.af x1).tabs, (st.af x1).pot u e1, _, p1, fun r c v' H' fp pr af im nd hf => q r c v' H' fp pr (Af.trans x1 (by rw [e1]; exact af)) im (Fp.back x1.fr ⟨fun b hb => by rw [e1]; exact fun z => (hf b hb).1 (Option.some.inj z).symm, fun _ => ⟨nd, fun b hb => (hf b hb).2⟩⟩)⟩⟩
def spW2 (K : PySem.W.Frag) (T : List (Addr × Str)) {α1 α2 R : Type} [Enc α1] [Enc α2] [Enc R] (f : α1 → α2 → M R) : Sp := fun vs H Q _ => ∃ (a1 : α1) (a2 : α2) (v1 v2 : V) (f1 f2 : List Addr), vs = [v1, v2] ∧ (Im K H v1 (enc a1) f1 ∧ Im K H v2 (enc a2) f2) ∧ Tabs T H ∧ ∃ P0 : R → Nat → Prop, f a1 a2 0 P0 ∧ ∀ r c v' H' fp, P0 r c → Af K T none H 0 H' 0 → Im K H' v' (enc r) fp → fp.Nodup → (∀ b ∈ fp, Fsh H b) → Q v' H'
theorem spW2_len {α1 α2 R : Type} [Enc α1] [Enc α2] [Enc R] {f : α1 → α2 → M R} {vs : List V} {H : Hp} {Q : VK} {E : XK} (h : spW2 K T f vs H Q E) : vs.length = 2 := by
  obtain ⟨a1, a2, v1, v2, f1, f2, rfl, _⟩ := h
  rfl
theorem w2_run {α1 α2 R : Type} [Enc α1] [Enc α2] [Enc R] {B S : Type} {N : List Str} {s1 : α1 → Sl} (p1 : PSl K s1) {s2 : α2 → Sl} (p2 : PSl K s2) {ρ : α1 → α2 → List Sl} (e : ∀ a1 a2, [s1 a1, s2 a2] ++ List.replicate (N.length - 2) Sl.any = ρ a1 a2) {t : TS} {mB : α1 → α2 → M (Ctl R B S)} {ρn : S → List Sl} {ρb : B → List Sl} {C : Option Addr → Prop} (hC : C none) (hr : ∀ a1 a2, RB K T C t (ρ a1 a2) (mB a1 a2) ρn ρb)
    {vs : List V} {H : Hp} {Q : VK} {E : XK} (h : spW2 K T (fun a1 a2 => outW (mB a1 a2)) vs H Q E) : t { nx := fun _ H' => Q .non H', rt := Q } (L2.start N vs) H := by
  obtain ⟨a1, a2, v1, v2, f1, f2, rfl, ⟨i1, i2⟩, tb, P0, h, hq⟩ := h
  refine end_pure (hr a1 a2) hC rfl ⟨_, st_start (ss := [s1 a1, s2 a2]) (fps := [f1, f2]) tb (fun b o z => ⟨z.1, z.2, by simp⟩) (fun a z => nomatch z) rfl (fun i s hi => ?_) (fun i d hi => ?_) (e a1 a2)⟩ h hq
  · match i, hi with
    | 0, hi =>
      obtain rfl := Option.some.inj hi
      exact (p1 _ _ _ _ _ _ i1 (lists_bs i1)).1
    | 1, hi =>
      obtain rfl := Option.some.inj hi
      exact (p2 _ _ _ _ _ _ i2 (lists_bs i2)).1
    | i + 2, hi => cases hi
  · match i, hi with
    | 0, hi => exact (p1 (fun b o => H b = some o ∧ ∀ ps, o ≠ .tbl ps) none H _ _ _ i1 (lists_bs i1)).2 _ (Option.some.inj hi)
    | 1, hi => exact (p2 (fun b o => H b = some o ∧ ∀ ps, o ≠ .tbl ps) none H _ _ _ i2 (lists_bs i2)).2 _ (Option.some.inj hi)
    | i + 2, hi => cases hi
theorem re_call2 {α1 α2 R : Type} [Enc α1] [Enc α2] [Enc R] {f : α1 → α2 → M R} {E : XK} {t1 : TE} {m1 : M α1} {b1 : Bool} (h1 : RE K T t1 ρ b1 m1) {t2 : TE} {m2 : M α2} {b2 : Bool} (h2 : RE K T t2 ρ b2 m2) : RE K T (tCall (spW2 K T f) [] E (tCons t1 (tCons t2 tNil))) ρ true (c2W m1 m2 fun a1 a2 => pureW (f a1 a2)) := fun Bs po φ σ H n st P p Q q =>
  h1 Bs po φ σ H n st _ p _ fun a1 n1 v1 H1 f1 p1 x1 i1 g1 =>
  h2 Bs po φ σ H1 n1 (st.af x1) _ p1 _ fun a2 n2 v2 H2 f2 p2 x2 i2 g2 =>
  ⟨_, _, _, _, _, _, rfl, ⟨(i1.af g1.1 x2.fr), i2⟩, ((st.af x1).af x2).tabs, _, p2, fun r c v' H' fp pr af im nd hf => q r n2 v' H' fp pr (Af.trans (Af.trans x1 x2) ⟨Fr.weak af.fr, af.tabs, fun a e z => keep_pot af z⟩) im (Fp.back (Af.trans x1 x2).fr ⟨fun b hb => ((st.af x1).af x2).fresh_pot (hf b hb), fun _ => ⟨nd, hf⟩⟩)⟩
def spP2 (K : PySem.W.Frag) (T : List (Addr × Str)) {α1 α2 R : Type} [Enc α1] [Enc α2] [Enc R] (f : α1 → α2 → M R) : Sp := fun vs H Q _ => ∃ (q : Addr) (n : Nat) (a1 : α1) (a2 : α2) (v1 v2 : V) (f1 f2 : List Addr), vs = [.ref q, v1, v2] ∧ (Im K H v1 (enc a1) f1 ∧ Im K H v2 (enc a2) f2 ∧ (∀ b ∈ f1, b ≠ q) ∧ (∀ b ∈ f2, b ≠ q)) ∧ Tabs T H ∧ Pot H q n ∧ ∃ P0 : R → Nat → Prop, f a1 a2 n P0 ∧ ∀ r n' v' H' fp, P0 r n' → Af K T (some q) H n H' n' → Im K H' v' (enc r) fp → fp.Nodup → (∀ b ∈ fp, b ≠ q ∧ Fsh H b) → Q v' H'
theorem spP2_len {α1 α2 R : Type} [Enc α1] [Enc α2] [Enc R] {f : α1 → α2 → M R} {vs : List V} {H : Hp} {Q : VK} {E : XK} (h : spP2 K T f vs H Q E) : vs.length = 3 := by
  obtain ⟨q, n, a1, a2, v1, v2, f1, f2, rfl, _⟩ := h
  rfl
theorem p2_run {α1 α2 R : Type} [Enc α1] [Enc α2] [Enc R] {B S : Type} {N : List Str} {s1 : α1 → Sl} (p1 : PSl K s1) {s2 : α2 → Sl} (p2 : PSl K s2) {ρ : α1 → α2 → List Sl} (e : ∀ a1 a2, [Sl.pot, s1 a1, s2 a2] ++ List.replicate (N.length - 3) Sl.any = ρ a1 a2) {t : TS} {mB : α1 → α2 → M (Ctl R B S)} {ρn : S → List Sl} {ρb : B → List Sl} {C : Option Addr → Prop} (hC : ∀ q, C (some q)) (hr : ∀ a1 a2, RB K T C t (ρ a1 a2) (mB a1 a2) ρn ρb)
    {vs : List V} {H : Hp} {Q : VK} {E : XK} (h : spP2 K T (fun a1 a2 => outW (mB a1 a2)) vs H Q E) : t { nx := fun _ H' => Q .non H', rt := Q } (L2.start N vs) H := by
  obtain ⟨q, n, a1, a2, v1, v2, f1, f2, rfl, ⟨i1, i2, j1, j2⟩, tb, pp, P0, h, hq⟩ := h
  refine end_pot (hr a1 a2) (hC q) rfl ⟨_, st_start (ss := [Sl.pot, s1 a1, s2 a2]) (fps := [[], f1, f2]) tb (fun b o z => ⟨z.1, z.2.1, fun w => z.2.2 (Option.some.inj w).symm⟩) (fun a z => by rw [← Option.some.inj z]; exact pp) rfl (fun i s hi => ?_) (fun i d hi => ?_) (e a1 a2)⟩ h hq
  · match i, hi with
    | 0, hi =>
      obtain rfl := Option.some.inj hi
      exact ⟨q, rfl, rfl⟩
    | 1, hi =>
      obtain rfl := Option.some.inj hi
      exact (p1 _ _ _ _ _ _ i1 (lists_bp i1 j1)).1
    | 2, hi =>
      obtain rfl := Option.some.inj hi
      exact (p2 _ _ _ _ _ _ i2 (lists_bp i2 j2)).1
    | i + 3, hi => cases hi
  · match i, hi with
    | 0, hi => cases hi
    | 1, hi => exact (p1 (fun b o => H b = some o ∧ (∀ ps, o ≠ .tbl ps) ∧ b ≠ q) (some q) H _ _ _ i1 (lists_bp i1 j1)).2 _ (Option.some.inj hi)
    | 2, hi => exact (p2 (fun b o => H b = some o ∧ (∀ ps, o ≠ .tbl ps) ∧ b ≠ q) (some q) H _ _ _ i2 (lists_bp i2 j2)).2 _ (Option.some.inj hi)
    | i + 3, hi => cases hi
theorem re_callp2 {α1 α2 R : Type} [Enc α1] [Enc α2] [Enc R] {f : α1 → α2 → M R} {E : XK} {ip : Nat} (hpot : ρ[ip]? = some .pot) {t1 : TE} {m1 : M α1} {b1 : Bool} (h1 : RE K T t1 ρ b1 m1) {t2 : TE} {m2 : M α2} {b2 : Bool} (h2 : RE K T t2 ρ b2 m2) : RE K T (tCall (spP2 K T f) [] E (tCons (tVar ip) (tCons t1 (tCons t2 tNil)))) ρ true (c2W m1 m2 f) := fun Bs po φ σ H n st P p Q q =>
  let ⟨u, e1, e2⟩ := st.sl ip _ hpot
  ⟨_, e2,
  h1 Bs po φ σ H n st _ p _ fun a1 n1 v1 H1 f1 p1 x1 i1 g1 =>
  h2 Bs po φ σ H1 n1 (st.af x1) _ p1 _ fun a2 n2 v2 H2 f2 p2 x2 i2 g2 =>
  ⟨u, n2, _, _, _, _, _, _, rfl, ⟨(i1.af g1.1 x2.fr), i2, fun b hb z => g1.1 b hb (by rw [z]; exact e1), fun b hb z => g2.1 b hb (by rw [z]; exact e1)⟩, ((st.af x1).af x2).tabs, ((st.af x1).af x2).pot u e1, _, p2, fun r c v' H' fp pr af im nd hf => q r c v' H' fp pr (Af.trans (Af.trans x1 x2) (by rw [e1]; exact af)) im (Fp.back (Af.trans x1 x2).fr ⟨fun b hb => by rw [e1]; exact fun z => (hf b hb).1 (Option.some.inj z).symm, fun _ => ⟨nd, fun b hb => (hf b hb).2⟩⟩)⟩⟩
def spW3 (K : PySem.W.Frag) (T : List (Addr × Str)) {α1 α2 α3 R : Type} [Enc α1] [Enc α2] [Enc α3] [Enc R] (f : α1 → α2 → α3 → M R) : Sp := fun vs H Q _ => ∃ (a1 : α1) (a2 : α2) (a3 : α3) (v1 v2 v3 : V) (f1 f2 f3 : List Addr), vs = [v1, v2, v3] ∧ (Im K H v1 (enc a1) f1 ∧ Im K H v2 (enc a2) f2 ∧ Im K H v3 (enc a3) f3) ∧ Tabs T H ∧ ∃ P0 : R → Nat → Prop, f a1 a2 a3 0 P0 ∧ ∀ r c v' H' fp, P0 r c → Af K T none H 0 H' 0 → Im K H' v' (enc r) fp → fp.Nodup → (∀ b ∈ fp, Fsh H b) → Q v' H'
theorem spW3_len {α1 α2 α3 R : Type} [Enc α1] [Enc α2] [Enc α3] [Enc R] {f : α1 → α2 → α3 → M R} {vs : List V} {H : Hp} {Q : VK} {E : XK} (h : spW3 K T f vs H Q E) : vs.length = 3 := by
  obtain ⟨a1, a2, a3, v1, v2, v3, f1, f2, f3, rfl, _⟩ := h
  rfl
theorem w3_run {α1 α2 α3 R : Type} [Enc α1] [Enc α2] [Enc α3] [Enc R] {B S : Type} {N : List Str} {s1 : α1 → Sl} (p1 : PSl K s1) {s2 : α2 → Sl} (p2 : PSl K s2) {s3 : α3 → Sl} (p3 : PSl K s3) {ρ : α1 → α2 → α3 → List Sl} (e : ∀ a1 a2 a3, [s1 a1, s2 a2, s3 a3] ++ List.replicate (N.length - 3) Sl.any = ρ a1 a2 a3) {t : TS} {mB : α1 → α2 → α3 → M (Ctl R B S)} {ρn : S → List Sl} {ρb : B → List Sl} {C : Option Addr → Prop} (hC : C none) (hr : ∀ a1 a2 a3, RB K T C t (ρ a1 a2 a3) (mB a1 a2 a3) ρn ρb)
    {vs : List V} {H : Hp} {Q : VK} {E : XK} (h : spW3 K T (fun a1 a2 a3 => outW (mB a1 a2 a3)) vs H Q E) : t { nx := fun _ H' => Q .non H', rt := Q } (L2.start N vs) H := by
  obtain ⟨a1, a2, a3, v1, v2, v3, f1, f2, f3, rfl, ⟨i1, i2, i3⟩, tb, P0, h, hq⟩ := h
  refine end_pure (hr a1 a2 a3) hC rfl ⟨_, st_start (ss := [s1 a1, s2 a2, s3 a3]) (fps := [f1, f2, f3]) tb (fun b o z => ⟨z.1, z.2, by simp⟩) (fun a z => nomatch z) rfl (fun i s hi => ?_) (fun i d hi => ?_) (e a1 a2 a3)⟩ h hq
  · match i, hi with
    | 0, hi =>
      obtain rfl := Option.some.inj hi
      exact (p1 _ _ _ _ _ _ i1 (lists_bs i1)).1
    | 1, hi =>
      obtain rfl := Option.some.inj hi
      exact (p2 _ _ _ _ _ _ i2 (lists_bs i2)).1
    | 2, hi =>
      obtain rfl := Option.some.inj hi
      exact (p3 _ _ _ _ _ _ i3 (lists_bs i3)).1
    | i + 3, hi => cases hi
  · match i, hi with
    | 0, hi => exact (p1 (fun b o => H b = some o ∧ ∀ ps, o ≠ .tbl ps) none H _ _ _ i1 (lists_bs i1)).2 _ (Option.some.inj hi)
    | 1, hi => exact (p2 (fun b o => H b = some o ∧ ∀ ps, o ≠ .tbl ps) none H _ _ _ i2 (lists_bs i2)).2 _ (Option.some.inj hi)
    | 2, hi => exact (p3 (fun b o => H b = some o ∧ ∀ ps, o ≠ .tbl ps) none H _ _ _ i3 (lists_bs i3)).2 _ (Option.some.inj hi)
    | i + 3, hi => cases hi
theorem re_call3 {α1 α2 α3 R : Type} [Enc α1] [Enc α2] [Enc α3] [Enc R] {f : α1 → α2 → α3 → M R} {E : XK} {t1 : TE} {m1 : M α1} {b1 : Bool} (h1 : RE K T t1 ρ b1 m1) {t2 : TE} {m2 : M α2} {b2 : Bool} (h2 : RE K T t2 ρ b2 m2) {t3 : TE} {m3 : M α3} {b3 : Bool} (h3 : RE K T t3 ρ b3 m3) : RE K T (tCall (spW3 K T f) [] E (tCons t1 (tCons t2 (tCons t3 tNil)))) ρ true (c3W m1 m2 m3 fun a1 a2 a3 => pureW (f a1 a2 a3)) := fun Bs po φ σ H n st P p Q q =>
  h1 Bs po φ σ H n st _ p _ fun a1 n1 v1 H1 f1 p1 x1 i1 g1 =>
  h2 Bs po φ σ H1 n1 (st.af x1) _ p1 _ fun a2 n2 v2 H2 f2 p2 x2 i2 g2 =>
  h3 Bs po φ σ H2 n2 ((st.af x1).af x2) _ p2 _ fun a3 n3 v3 H3 f3 p3 x3 i3 g3 =>
  ⟨_, _, _, _, _, _, _, _, _, rfl, ⟨((i1.af g1.1 x2.fr).af g1.1 x3.fr), (i2.af g2.1 x3.fr), i3⟩, (((st.af x1).af x2).af x3).tabs, _, p3, fun r c v' H' fp pr af im nd hf => q r n3 v' H' fp pr (Af.trans (Af.trans (Af.trans x1 x2) x3) ⟨Fr.weak af.fr, af.tabs, fun a e z => keep_pot af z⟩) im (Fp.back (Af.trans (Af.trans x1 x2) x3).fr ⟨fun b hb => (((st.af x1).af x2).af x3).fresh_pot (hf b hb), fun _ => ⟨nd, hf⟩⟩)⟩
def spP3 (K : PySem.W.Frag) (T : List (Addr × Str)) {α1 α2 α3 R : Type} [Enc α1] [Enc α2] [Enc α3] [Enc R] (f : α1 → α2 → α3 → M R) : Sp := fun vs H Q _ => ∃ (q : Addr) (n : Nat) (a1 : α1) (a2 : α2) (a3 : α3) (v1 v2 v3 : V) (f1 f2 f3 : List Addr), vs = [.ref q, v1, v2, v3] ∧ (Im K H v1 (enc a1) f1 ∧ Im K H v2 (enc a2) f2 ∧ Im K H v3 (enc a3) f3 ∧ (∀ b ∈ f1, b ≠ q) ∧ (∀ b ∈ f2, b ≠ q) ∧ (∀ b ∈ f3, b ≠ q)) ∧ Tabs T H ∧ Pot H q n ∧ ∃ P0 : R → Nat → Prop, f a1 a2 a3 n P0 ∧ ∀ r n' v' H' fp, P0 r n' → Af K T (some q) H n H' n' → Im K H' v' (enc r) fp → fp.Nodup → (∀ b ∈ fp, b ≠ q ∧ Fsh H b) → Q v' H'
theorem spP3_len {α1 α2 α3 R : Type} [Enc α1] [Enc α2] [Enc α3] [Enc R] {f : α1 → α2 → α3 → M R} {vs : List V} {H : Hp} {Q : VK} {E : XK} (h : spP3 K T f vs H Q E) : vs.length = 4 := by
  obtain ⟨q, n, a1, a2, a3, v1, v2, v3, f1, f2, f3, rfl, _⟩ := h
  rfl
theorem p3_run {α1 α2 α3 R : Type} [Enc α1] [Enc α2] [Enc α3] [Enc R] {B S : Type} {N : List Str} {s1 : α1 → Sl} (p1 : PSl K s1) {s2 : α2 → Sl} (p2 : PSl K s2) {s3 : α3 → Sl} (p3 : PSl K s3) {ρ : α1 → α2 → α3 → List Sl} (e : ∀ a1 a2 a3, [Sl.pot, s1 a1, s2 a2, s3 a3] ++ List.replicate (N.length - 4) Sl.any = ρ a1 a2 a3) {t : TS} {mB : α1 → α2 → α3 → M (Ctl R B S)} {ρn : S → List Sl} {ρb : B → List Sl} {C : Option Addr → Prop} (hC : ∀ q, C (some q)) (hr : ∀ a1 a2 a3, RB K T C t (ρ a1 a2 a3) (mB a1 a2 a3) ρn ρb)
    {vs : List V} {H : Hp} {Q : VK} {E : XK} (h : spP3 K T (fun a1 a2 a3 => outW (mB a1 a2 a3)) vs H Q E) : t { nx := fun _ H' => Q .non H', rt := Q } (L2.start N vs) H := by
  obtain ⟨q, n, a1, a2, a3, v1, v2, v3, f1, f2, f3, rfl, ⟨i1, i2, i3, j1, j2, j3⟩, tb, pp, P0, h, hq⟩ := h
  refine end_pot (hr a1 a2 a3) (hC q) rfl ⟨_, st_start (ss := [Sl.pot, s1 a1, s2 a2, s3 a3]) (fps := [[], f1, f2, f3]) tb (fun b o z => ⟨z.1, z.2.1, fun w => z.2.2 (Option.some.inj w).symm⟩) (fun a z => by rw [← Option.some.inj z]; exact pp) rfl (fun i s hi => ?_) (fun i d hi => ?_) (e a1 a2 a3)⟩ h hq
  · match i, hi with
    | 0, hi =>
      obtain rfl := Option.some.inj hi
      exact ⟨q, rfl, rfl⟩
    | 1, hi =>
      obtain rfl := Option.some.inj hi
      exact (p1 _ _ _ _ _ _ i1 (lists_bp i1 j1)).1
    | 2, hi =>
      obtain rfl := Option.some.inj hi
      exact (p2 _ _ _ _ _ _ i2 (lists_bp i2 j2)).1
    | 3, hi =>
      obtain rfl := Option.some.inj hi
      exact (p3 _ _ _ _ _ _ i3 (lists_bp i3 j3)).1
    | i + 4, hi => cases hi
  · match i, hi with
    | 0, hi => cases hi
    | 1, hi => exact (p1 (fun b o => H b = some o ∧ (∀ ps, o ≠ .tbl ps) ∧ b ≠ q) (some q) H _ _ _ i1 (lists_bp i1 j1)).2 _ (Option.some.inj hi)
    | 2, hi => exact (p2 (fun b o => H b = some o ∧ (∀ ps, o ≠ .tbl ps) ∧ b ≠ q) (some q) H _ _ _ i2 (lists_bp i2 j2)).2 _ (Option.some.inj hi)
    | 3, hi => exact (p3 (fun b o => H b = some o ∧ (∀ ps, o ≠ .tbl ps) ∧ b ≠ q) (some q) H _ _ _ i3 (lists_bp i3 j3)).2 _ (Option.some.inj hi)
    | i + 4, hi => cases hi
theorem re_callp3 {α1 α2 α3 R : Type} [Enc α1] [Enc α2] [Enc α3] [Enc R] {f : α1 → α2 → α3 → M R} {E : XK} {ip : Nat} (hpot : ρ[ip]? = some .pot) {t1 : TE} {m1 : M α1} {b1 : Bool} (h1 : RE K T t1 ρ b1 m1) {t2 : TE} {m2 : M α2} {b2 : Bool} (h2 : RE K T t2 ρ b2 m2) {t3 : TE} {m3 : M α3} {b3 : Bool} (h3 : RE K T t3 ρ b3 m3) : RE K T (tCall (spP3 K T f) [] E (tCons (tVar ip) (tCons t1 (tCons t2 (tCons t3 tNil))))) ρ true (c3W m1 m2 m3 f) := fun Bs po φ σ H n st P p Q q =>
  let ⟨u, e1, e2⟩ := st.sl ip _ hpot
  ⟨_, e2,
  h1 Bs po φ σ H n st _ p _ fun a1 n1 v1 H1 f1 p1 x1 i1 g1 =>
  h2 Bs po φ σ H1 n1 (st.af x1) _ p1 _ fun a2 n2 v2 H2 f2 p2 x2 i2 g2 =>
  h3 Bs po φ σ H2 n2 ((st.af x1).af x2) _ p2 _ fun a3 n3 v3 H3 f3 p3 x3 i3 g3 =>
  ⟨u, n3, _, _, _, _, _, _, _, _, _, rfl, ⟨((i1.af g1.1 x2.fr).af g1.1 x3.fr), (i2.af g2.1 x3.fr), i3, fun b hb z => g1.1 b hb (by rw [z]; exact e1), fun b hb z => g2.1 b hb (by rw [z]; exact e1), fun b hb z => g3.1 b hb (by rw [z]; exact e1)⟩, (((st.af x1).af x2).af x3).tabs, (((st.af x1).af x2).af x3).pot u e1, _, p3, fun r c v' H' fp pr af im nd hf => q r c v' H' fp pr (Af.trans (Af.trans (Af.trans x1 x2) x3) (by rw [e1]; exact af)) im (Fp.back (Af.trans (Af.trans x1 x2) x3).fr ⟨fun b hb => by rw [e1]; exact fun z => (hf b hb).1 (Option.some.inj z).symm, fun _ => ⟨nd, fun b hb => (hf b hb).2⟩⟩)⟩⟩
def spW4 (K : PySem.W.Frag) (T : List (Addr × Str)) {α1 α2 α3 α4 R : Type} [Enc α1] [Enc α2] [Enc α3] [Enc α4] [Enc R] (f : α1 → α2 → α3 → α4 → M R) : Sp := fun vs H Q _ => ∃ (a1 : α1) (a2 : α2) (a3 : α3) (a4 : α4) (v1 v2 v3 v4 : V) (f1 f2 f3 f4 : List Addr), vs = [v1, v2, v3, v4] ∧ (Im K H v1 (enc a1) f1 ∧ Im K H v2 (enc a2) f2 ∧ Im K H v3 (enc a3) f3 ∧ Im K H v4 (enc a4) f4) ∧ Tabs T H ∧ ∃ P0 : R → Nat → Prop, f a1 a2 a3 a4 0 P0 ∧ ∀ r c v' H' fp, P0 r c → Af K T none H 0 H' 0 → Im K H' v' (enc r) fp → fp.Nodup → (∀ b ∈ fp, Fsh H b) → Q v' H'
theorem spW4_len {α1 α2 α3 α4 R : Type} [Enc α1] [Enc α2] [Enc α3] [Enc α4] [Enc R] {f : α1 → α2 → α3 → α4 → M R} {vs : List V} {H : Hp} {Q : VK} {E : XK} (h : spW4 K T f vs H Q E) : vs.length = 4 := by
  obtain ⟨a1, a2, a3, a4, v1, v2, v3, v4, f1, f2, f3, f4, rfl, _⟩ := h
  rfl
theorem w4_run {α1 α2 α3 α4 R : Type} [Enc α1] [Enc α2] [Enc α3] [Enc α4] [Enc R] {B S : Type} {N : List Str} {s1 : α1 → Sl} (p1 : PSl K s1) {s2 : α2 → Sl} (p2 : PSl K s2) {s3 : α3 → Sl} (p3 : PSl K s3) {s4 : α4 → Sl} (p4 : PSl K s4) {ρ : α1 → α2 → α3 → α4 → List Sl} (e : ∀ a1 a2 a3 a4, [s1 a1, s2 a2, s3 a3, s4 a4] ++ List.replicate (N.length - 4) Sl.any = ρ a1 a2 a3 a4) {t : TS} {mB : α1 → α2 → α3 → α4 → M (Ctl R B S)} {ρn : S → List Sl} {ρb : B → List Sl} {C : Option Addr → Prop} (hC : C none) (hr : ∀ a1 a2 a3 a4, RB K T C t (ρ a1 a2 a3 a4) (mB a1 a2 a3 a4) ρn ρb)
    {vs : List V} {H : Hp} {Q : VK} {E : XK} (h : spW4 K T (fun a1 a2 a3 a4 => outW (mB a1 a2 a3 a4)) vs H Q E) : t { nx := fun _ H' => Q .non H', rt := Q } (L2.start N vs) H := by
  obtain ⟨a1, a2, a3, a4, v1, v2, v3, v4, f1, f2, f3, f4, rfl, ⟨i1, i2, i3, i4⟩, tb, P0, h, hq⟩ := h
  refine end_pure (hr a1 a2 a3 a4) hC rfl ⟨_, st_start (ss := [s1 a1, s2 a2, s3 a3, s4 a4]) (fps := [f1, f2, f3, f4]) tb (fun b o z => ⟨z.1, z.2, by simp⟩) (fun a z => nomatch z) rfl (fun i s hi => ?_) (fun i d hi => ?_) (e a1 a2 a3 a4)⟩ h hq
  · match i, hi with
    | 0, hi =>
      obtain rfl := Option.some.inj hi
      exact (p1 _ _ _ _ _ _ i1 (lists_bs i1)).1
    | 1, hi =>
      obtain rfl := Option.some.inj hi
      exact (p2 _ _ _ _ _ _ i2 (lists_bs i2)).1
    | 2, hi =>
      obtain rfl := Option.some.inj hi
      exact (p3 _ _ _ _ _ _ i3 (lists_bs i3)).1
    | 3, hi =>
      obtain rfl := Option.some.inj hi
      exact (p4 _ _ _ _ _ _ i4 (lists_bs i4)).1
    | i + 4, hi => cases hi
  · match i, hi with
    | 0, hi => exact (p1 (fun b o => H b = some o ∧ ∀ ps, o ≠ .tbl ps) none H _ _ _ i1 (lists_bs i1)).2 _ (Option.some.inj hi)
    | 1, hi => exact (p2 (fun b o => H b = some o ∧ ∀ ps, o ≠ .tbl ps) none H _ _ _ i2 (lists_bs i2)).2 _ (Option.some.inj hi)
    | 2, hi => exact (p3 (fun b o => H b = some o ∧ ∀ ps, o ≠ .tbl ps) none H _ _ _ i3 (lists_bs i3)).2 _ (Option.some.inj hi)
    | 3, hi => exact (p4 (fun b o => H b = some o ∧ ∀ ps, o ≠ .tbl ps) none H _ _ _ i4 (lists_bs i4)).2 _ (Option.some.inj hi)
    | i + 4, hi => cases hi
theorem re_call4 {α1 α2 α3 α4 R : Type} [Enc α1] [Enc α2] [Enc α3] [Enc α4] [Enc R] {f : α1 → α2 → α3 → α4 → M R} {E : XK} {t1 : TE} {m1 : M α1} {b1 : Bool} (h1 : RE K T t1 ρ b1 m1) {t2 : TE} {m2 : M α2} {b2 : Bool} (h2 : RE K T t2 ρ b2 m2) {t3 : TE} {m3 : M α3} {b3 : Bool} (h3 : RE K T t3 ρ b3 m3) {t4 : TE} {m4 : M α4} {b4 : Bool} (h4 : RE K T t4 ρ b4 m4) : RE K T (tCall (spW4 K T f) [] E (tCons t1 (tCons t2 (tCons t3 (tCons t4 tNil))))) ρ true (c4W m1 m2 m3 m4 fun a1 a2 a3 a4 => pureW (f a1 a2 a3 a4)) := fun Bs po φ σ H n st P p Q q =>
  h1 Bs po φ σ H n st _ p _ fun a1 n1 v1 H1 f1 p1 x1 i1 g1 =>
  h2 Bs po φ σ H1 n1 (st.af x1) _ p1 _ fun a2 n2 v2 H2 f2 p2 x2 i2 g2 =>
  h3 Bs po φ σ H2 n2 ((st.af x1).af x2) _ p2 _ fun a3 n3 v3 H3 f3 p3 x3 i3 g3 =>
  h4 Bs po φ σ H3 n3 (((st.af x1).af x2).af x3) _ p3 _ fun a4 n4 v4 H4 f4 p4 x4 i4 g4 =>
  ⟨_, _, _, _, _, _, _, _, _, _, _, _, rfl, ⟨(((i1.af g1.1 x2.fr).af g1.1 x3.fr).af g1.1 x4.fr), ((i2.af g2.1 x3.fr).af g2.1 x4.fr), (i3.af g3.1 x4.fr), i4⟩, ((((st.af x1).af x2).af x3).af x4).tabs, _, p4, fun r c v' H' fp pr af im nd hf => q r n4 v' H' fp pr (Af.trans (Af.trans (Af.trans (Af.trans x1 x2) x3) x4) ⟨Fr.weak af.fr, af.tabs, fun a e z => keep_pot af z⟩) im (Fp.back (Af.trans (Af.trans (Af.trans x1 x2) x3) x4).fr ⟨fun b hb => ((((st.af x1).af x2).af x3).af x4).fresh_pot (hf b hb), fun _ => ⟨nd, hf⟩⟩)⟩
def spP4 (K : PySem.W.Frag) (T : List (Addr × Str)) {α1 α2 α3 α4 R : Type} [Enc α1] [Enc α2] [Enc α3] [Enc α4] [Enc R] (f : α1 → α2 → α3 → α4 → M R) : Sp := fun vs H Q _ => ∃ (q : Addr) (n : Nat) (a1 : α1) (a2 : α2) (a3 : α3) (a4 : α4) (v1 v2 v3 v4 : V) (f1 f2 f3 f4 : List Addr), vs = [.ref q, v1, v2, v3, v4] ∧ (Im K H v1 (enc a1) f1 ∧ Im K H v2 (enc a2) f2 ∧ Im K H v3 (enc a3) f3 ∧ Im K H v4 (enc a4) f4 ∧ (∀ b ∈ f1, b ≠ q) ∧ (∀ b ∈ f2, b ≠ q) ∧ (∀ b ∈ f3, b ≠ q) ∧ (∀ b ∈ f4, b ≠ q)) ∧ Tabs T H ∧ Pot H q n ∧ ∃ P0 : R → Nat → Prop, f a1 a2 a3 a4 n P0 ∧ ∀ r n' v' H' fp, P0 r n' → Af K T (some q) H n H' n' → Im K H' v' (enc r) fp → fp.Nodup → (∀ b ∈ fp, b ≠ q ∧ Fsh H b) → Q v' H'
theorem spP4_len {α1 α2 α3 α4 R : Type} [Enc α1] [Enc α2] [Enc α3] [Enc α4] [Enc R] {f : α1 → α2 → α3 → α4 → M R} {vs : List V} {H : Hp} {Q : VK} {E : XK} (h : spP4 K T f vs H Q E) : vs.length = 5 := by
  obtain ⟨q, n, a1, a2, a3, a4, v1, v2, v3, v4, f1, f2, f3, f4, rfl, _⟩ := h
  rfl
theorem p4_run {α1 α2 α3 α4 R : Type} [Enc α1] [Enc α2] [Enc α3] [Enc α4] [Enc R] {B S : Type} {N : List Str} {s1 : α1 → Sl} (p1 : PSl K s1) {s2 : α2 → Sl} (p2 : PSl K s2) {s3 : α3 → Sl} (p3 : PSl K s3) {s4 : α4 → Sl} (p4 : PSl K s4) {ρ : α1 → α2 → α3 → α4 → List Sl} (e : ∀ a1 a2 a3 a4, [Sl.pot, s1 a1, s2 a2, s3 a3, s4 a4] ++ List.replicate (N.length - 5) Sl.any = ρ a1 a2 a3 a4) {t : TS} {mB : α1 → α2 → α3 → α4 → M (Ctl R B S)} {ρn : S → List Sl} {ρb : B → List Sl} {C : Option Addr → Prop} (hC : ∀ q, C (some q)) (hr : ∀ a1 a2 a3 a4, RB K T C t (ρ a1 a2 a3 a4) (mB a1 a2 a3 a4) ρn ρb)
    {vs : List V} {H : Hp} {Q : VK} {E : XK} (h : spP4 K T (fun a1 a2 a3 a4 => outW (mB a1 a2 a3 a4)) vs H Q E) : t { nx := fun _ H' => Q .non H', rt := Q } (L2.start N vs) H := by
  obtain ⟨q, n, a1, a2, a3, a4, v1, v2, v3, v4, f1, f2, f3, f4, rfl, ⟨i1, i2, i3, i4, j1, j2, j3, j4⟩, tb, pp, P0, h, hq⟩ := h
  refine end_pot (hr a1 a2 a3 a4) (hC q) rfl ⟨_, st_start (ss := [Sl.pot, s1 a1, s2 a2, s3 a3, s4 a4]) (fps := [[], f1, f2, f3, f4]) tb (fun b o z => ⟨z.1, z.2.1, fun w => z.2.2 (Option.some.inj w).symm⟩) (fun a z => by rw [← Option.some.inj z]; exact pp) rfl (fun i s hi => ?_) (fun i d hi => ?_) (e a1 a2 a3 a4)⟩ h hq
  · match i, hi with
    | 0, hi =>
      obtain rfl := Option.some.inj hi
      exact ⟨q, rfl, rfl⟩
    | 1, hi =>
      obtain rfl := Option.some.inj hi
      exact (p1 _ _ _ _ _ _ i1 (lists_bp i1 j1)).1
    | 2, hi =>
      obtain rfl := Option.some.inj hi
      exact (p2 _ _ _ _ _ _ i2 (lists_bp i2 j2)).1
    | 3, hi =>
      obtain rfl := Option.some.inj hi
      exact (p3 _ _ _ _ _ _ i3 (lists_bp i3 j3)).1
    | 4, hi =>
      obtain rfl := Option.some.inj hi
      exact (p4 _ _ _ _ _ _ i4 (lists_bp i4 j4)).1
    | i + 5, hi => cases hi
  · match i, hi with
    | 0, hi => cases hi
    | 1, hi => exact (p1 (fun b o => H b = some o ∧ (∀ ps, o ≠ .tbl ps) ∧ b ≠ q) (some q) H _ _ _ i1 (lists_bp i1 j1)).2 _ (Option.some.inj hi)
    | 2, hi => exact (p2 (fun b o => H b = some o ∧ (∀ ps, o ≠ .tbl ps) ∧ b ≠ q) (some q) H _ _ _ i2 (lists_bp i2 j2)).2 _ (Option.some.inj hi)
    | 3, hi => exact (p3 (fun b o => H b = some o ∧ (∀ ps, o ≠ .tbl ps) ∧ b ≠ q) (some q) H _ _ _ i3 (lists_bp i3 j3)).2 _ (Option.some.inj hi)
    | 4, hi => exact (p4 (fun b o => H b = some o ∧ (∀ ps, o ≠ .tbl ps) ∧ b ≠ q) (some q) H _ _ _ i4 (lists_bp i4 j4)).2 _ (Option.some.inj hi)
    | i + 5, hi => cases hi
theorem re_callp4 {α1 α2 α3 α4 R : Type} [Enc α1] [Enc α2] [Enc α3] [Enc α4] [Enc R] {f : α1 → α2 → α3 → α4 → M R} {E : XK} {ip : Nat} (hpot : ρ[ip]? = some .pot) {t1 : TE} {m1 : M α1} {b1 : Bool} (h1 : RE K T t1 ρ b1 m1) {t2 : TE} {m2 : M α2} {b2 : Bool} (h2 : RE K T t2 ρ b2 m2) {t3 : TE} {m3 : M α3} {b3 : Bool} (h3 : RE K T t3 ρ b3 m3) {t4 : TE} {m4 : M α4} {b4 : Bool} (h4 : RE K T t4 ρ b4 m4) : RE K T (tCall (spP4 K T f) [] E (tCons (tVar ip) (tCons t1 (tCons t2 (tCons t3 (tCons t4 tNil)))))) ρ true (c4W m1 m2 m3 m4 f) := fun Bs po φ σ H n st P p Q q =>
  let ⟨u, e1, e2⟩ := st.sl ip _ hpot
  ⟨_, e2,
  h1 Bs po φ σ H n st _ p _ fun a1 n1 v1 H1 f1 p1 x1 i1 g1 =>
  h2 Bs po φ σ H1 n1 (st.af x1) _ p1 _ fun a2 n2 v2 H2 f2 p2 x2 i2 g2 =>
  h3 Bs po φ σ H2 n2 ((st.af x1).af x2) _ p2 _ fun a3 n3 v3 H3 f3 p3 x3 i3 g3 =>
  h4 Bs po φ σ H3 n3 (((st.af x1).af x2).af x3) _ p3 _ fun a4 n4 v4 H4 f4 p4 x4 i4 g4 =>
  ⟨u, n4, _, _, _, _, _, _, _, _, _, _, _, _, rfl, ⟨(((i1.af g1.1 x2.fr).af g1.1 x3.fr).af g1.1 x4.fr), ((i2.af g2.1 x3.fr).af g2.1 x4.fr), (i3.af g3.1 x4.fr), i4, fun b hb z => g1.1 b hb (by rw [z]; exact e1), fun b hb z => g2.1 b hb (by rw [z]; exact e1), fun b hb z => g3.1 b hb (by rw [z]; exact e1), fun b hb z => g4.1 b hb (by rw [z]; exact e1)⟩, ((((st.af x1).af x2).af x3).af x4).tabs, ((((st.af x1).af x2).af x3).af x4).pot u e1, _, p4, fun r c v' H' fp pr af im nd hf => q r c v' H' fp pr (Af.trans (Af.trans (Af.trans (Af.trans x1 x2) x3) x4) (by rw [e1]; exact af)) im (Fp.back (Af.trans (Af.trans (Af.trans x1 x2) x3) x4).fr ⟨fun b hb => by rw [e1]; exact fun z => (hf b hb).1 (Option.some.inj z).symm, fun _ => ⟨nd, fun b hb => (hf b hb).2⟩⟩)⟩⟩
def spW5 (K : PySem.W.Frag) (T : List (Addr × Str)) {α1 α2 α3 α4 α5 R : Type} [Enc α1] [Enc α2] [Enc α3] [Enc α4] [Enc α5] [Enc R] (f : α1 → α2 → α3 → α4 → α5 → M R) : Sp := fun vs H Q _ => ∃ (a1 : α1) (a2 : α2) (a3 : α3) (a4 : α4) (a5 : α5) (v1 v2 v3 v4 v5 : V) (f1 f2 f3 f4 f5 : List Addr), vs = [v1, v2, v3, v4, v5] ∧ (Im K H v1 (enc a1) f1 ∧ Im K H v2 (enc a2) f2 ∧ Im K H v3 (enc a3) f3 ∧ Im K H v4 (enc a4) f4 ∧ Im K H v5 (enc a5) f5) ∧ Tabs T H ∧ ∃ P0 : R → Nat → Prop, f a1 a2 a3 a4 a5 0 P0 ∧ ∀ r c v' H' fp, P0 r c → Af K T none H 0 H' 0 → Im K H' v' (enc r) fp → fp.Nodup → (∀ b ∈ fp, Fsh H b) → Q v' H'
theorem spW5_len {α1 α2 α3 α4 α5 R : Type} [Enc α1] [Enc α2] [Enc α3] [Enc α4] [Enc α5] [Enc R] {f : α1 → α2 → α3 → α4 → α5 → M R} {vs : List V} {H : Hp} {Q : VK} {E : XK} (h : spW5 K T f vs H Q E) : vs.length = 5 := by
  obtain ⟨a1, a2, a3, a4, a5, v1, v2, v3, v4, v5, f1, f2, f3, f4, f5, rfl, _⟩ := h
  rfl
theorem w5_run {α1 α2 α3 α4 α5 R : Type} [Enc α1] [Enc α2] [Enc α3] [Enc α4] [Enc α5] [Enc R] {B S : Type} {N : List Str} {s1 : α1 → Sl} (p1 : PSl K s1) {s2 : α2 → Sl} (p2 : PSl K s2) {s3 : α3 → Sl} (p3 : PSl K s3) {s4 : α4 → Sl} (p4 : PSl K s4) {s5 : α5 → Sl} (p5 : PSl K s5) {ρ : α1 → α2 → α3 → α4 → α5 → List Sl} (e : ∀ a1 a2 a3 a4 a5, [s1 a1, s2 a2, s3 a3, s4 a4, s5 a5] ++ List.replicate (N.length - 5) Sl.any = ρ a1 a2 a3 a4 a5) {t : TS} {mB : α1 → α2 → α3 → α4 → α5 → M (Ctl R B S)} {ρn : S → List Sl} {ρb : B → List Sl} {C : Option Addr → Prop} (hC : C none) (hr : ∀ a1 a2 a3 a4 a5, RB K T C t (ρ a1 a2 a3 a4 a5) (mB a1 a2 a3 a4 a5) ρn ρb)
    {vs : List V} {H : Hp} {Q : VK} {E : XK} (h : spW5 K T (fun a1 a2 a3 a4 a5 => outW (mB a1 a2 a3 a4 a5)) vs H Q E) : t { nx := fun _ H' => Q .non H', rt := Q } (L2.start N vs) H := by
  obtain ⟨a1, a2, a3, a4, a5, v1, v2, v3, v4, v5, f1, f2, f3, f4, f5, rfl, ⟨i1, i2, i3, i4, i5⟩, tb, P0, h, hq⟩ := h
  refine end_pure (hr a1 a2 a3 a4 a5) hC rfl ⟨_, st_start (ss := [s1 a1, s2 a2, s3 a3, s4 a4, s5 a5]) (fps := [f1, f2, f3, f4, f5]) tb (fun b o z => ⟨z.1, z.2, by simp⟩) (fun a z => nomatch z) rfl (fun i s hi => ?_) (fun i d hi => ?_) (e a1 a2 a3 a4 a5)⟩ h hq
  · match i, hi with
    | 0, hi =>
      obtain rfl := Option.some.inj hi
      exact (p1 _ _ _ _ _ _ i1 (lists_bs i1)).1
    | 1, hi =>
      obtain rfl := Option.some.inj hi
      exact (p2 _ _ _ _ _ _ i2 (lists_bs i2)).1
    | 2, hi =>
      obtain rfl := Option.some.inj hi
      exact (p3 _ _ _ _ _ _ i3 (lists_bs i3)).1
    | 3, hi =>
      obtain rfl := Option.some.inj hi
      exact (p4 _ _ _ _ _ _ i4 (lists_bs i4)).1
    | 4, hi =>
      obtain rfl := Option.some.inj hi
      exact (p5 _ _ _ _ _ _ i5 (lists_bs i5)).1
    | i + 5, hi => cases hi
  · match i, hi with
    | 0, hi => exact (p1 (fun b o => H b = some o ∧ ∀ ps, o ≠ .tbl ps) none H _ _ _ i1 (lists_bs i1)).2 _ (Option.some.inj hi)
    | 1, hi => exact (p2 (fun b o => H b = some o ∧ ∀ ps, o ≠ .tbl ps) none H _ _ _ i2 (lists_bs i2)).2 _ (Option.some.inj hi)
    | 2, hi => exact (p3 (fun b o => H b = some o ∧ ∀ ps, o ≠ .tbl ps) none H _ _ _ i3 (lists_bs i3)).2 _ (Option.some.inj hi)
    | 3, hi => exact (p4 (fun b o => H b = some o ∧ ∀ ps, o ≠ .tbl ps) none H _ _ _ i4 (lists_bs i4)).2 _ (Option.some.inj hi)
    | 4, hi => exact (p5 (fun b o => H b = some o ∧ ∀ ps, o ≠ .tbl ps) none H _ _ _ i5 (lists_bs i5)).2 _ (Option.some.inj hi)
    | i + 5, hi => cases hi
theorem re_call5 {α1 α2 α3 α4 α5 R : Type} [Enc α1] [Enc α2] [Enc α3] [Enc α4] [Enc α5] [Enc R] {f : α1 → α2 → α3 → α4 → α5 → M R} {E : XK} {t1 : TE} {m1 : M α1} {b1 : Bool} (h1 : RE K T t1 ρ b1 m1) {t2 : TE} {m2 : M α2} {b2 : Bool} (h2 : RE K T t2 ρ b2 m2) {t3 : TE} {m3 : M α3} {b3 : Bool} (h3 : RE K T t3 ρ b3 m3) {t4 : TE} {m4 : M α4} {b4 : Bool} (h4 : RE K T t4 ρ b4 m4) {t5 : TE} {m5 : M α5} {b5 : Bool} (h5 : RE K T t5 ρ b5 m5) : RE K T (tCall (spW5 K T f) [] E (tCons t1 (tCons t2 (tCons t3 (tCons t4 (tCons t5 tNil)))))) ρ true (c5W m1 m2 m3 m4 m5 fun a1 a2 a3 a4 a5 => pureW (f a1 a2 a3 a4 a5)) := fun Bs po φ σ H n st P p Q q =>
  h1 Bs po φ σ H n st _ p _ fun a1 n1 v1 H1 f1 p1 x1 i1 g1 =>
  h2 Bs po φ σ H1 n1 (st.af x1) _ p1 _ fun a2 n2 v2 H2 f2 p2 x2 i2 g2 =>
  h3 Bs po φ σ H2 n2 ((st.af x1).af x2) _ p2 _ fun a3 n3 v3 H3 f3 p3 x3 i3 g3 =>
  h4 Bs po φ σ H3 n3 (((st.af x1).af x2).af x3) _ p3 _ fun a4 n4 v4 H4 f4 p4 x4 i4 g4 =>
  h5 Bs po φ σ H4 n4 ((((st.af x1).af x2).af x3).af x4) _ p4 _ fun a5 n5 v5 H5 f5 p5 x5 i5 g5 =>
  ⟨_, _, _, _, _, _, _, _, _, _, _, _, _, _, _, rfl, ⟨((((i1.af g1.1 x2.fr).af g1.1 x3.fr).af g1.1 x4.fr).af g1.1 x5.fr), (((i2.af g2.1 x3.fr).af g2.1 x4.fr).af g2.1 x5.fr), ((i3.af g3.1 x4.fr).af g3.1 x5.fr), (i4.af g4.1 x5.fr), i5⟩, (((((st.af x1).af x2).af x3).af x4).af x5).tabs, _, p5, fun r c v' H' fp pr af im nd hf => q r n5 v' H' fp pr (Af.trans (Af.trans (Af.trans (Af.trans (Af.trans x1 x2) x3) x4) x5) ⟨Fr.weak af.fr, af.tabs, fun a e z => keep_pot af z⟩) im (Fp.back (Af.trans (Af.trans (Af.trans (Af.trans x1 x2) x3) x4) x5).fr ⟨fun b hb => (((((st.af x1).af x2).af x3).af x4).af x5).fresh_pot (hf b hb), fun _ => ⟨nd, hf⟩⟩)⟩
def spP5 (K : PySem.W.Frag) (T : List (Addr × Str)) {α1 α2 α3 α4 α5 R : Type} [Enc α1] [Enc α2] [Enc α3] [Enc α4] [Enc α5] [Enc R] (f : α1 → α2 → α3 → α4 → α5 → M R) : Sp := fun vs H Q _ => ∃ (q : Addr) (n : Nat) (a1 : α1) (a2 : α2) (a3 : α3) (a4 : α4) (a5 : α5) (v1 v2 v3 v4 v5 : V) (f1 f2 f3 f4 f5 : List Addr), vs = [.ref q, v1, v2, v3, v4, v5] ∧ (Im K H v1 (enc a1) f1 ∧ Im K H v2 (enc a2) f2 ∧ Im K H v3 (enc a3) f3 ∧ Im K H v4 (enc a4) f4 ∧ Im K H v5 (enc a5) f5 ∧ (∀ b ∈ f1, b ≠ q) ∧ (∀ b ∈ f2, b ≠ q) ∧ (∀ b ∈ f3, b ≠ q) ∧ (∀ b ∈ f4, b ≠ q) ∧ (∀ b ∈ f5, b ≠ q)) ∧ Tabs T H ∧ Pot H q n ∧ ∃ P0 : R → Nat → Prop, f a1 a2 a3 a4 a5 n P0 ∧ ∀ r n' v' H' fp, P0 r n' → Af K T (some q) H n H' n' → Im K H' v' (enc r) fp → fp.Nodup → (∀ b ∈ fp, b ≠ q ∧ Fsh H b) → Q v' H'
theorem spP5_len {α1 α2 α3 α4 α5 R : Type} [Enc α1] [Enc α2] [Enc α3] [Enc α4] [Enc α5] [Enc R] {f : α1 → α2 → α3 → α4 → α5 → M R} {vs : List V} {H : Hp} {Q : VK} {E : XK} (h : spP5 K T f vs H Q E) : vs.length = 6 := by
  obtain ⟨q, n, a1, a2, a3, a4, a5, v1, v2, v3, v4, v5, f1, f2, f3, f4, f5, rfl, _⟩ := h
  rfl
theorem p5_run {α1 α2 α3 α4 α5 R : Type} [Enc α1] [Enc α2] [Enc α3] [Enc α4] [Enc α5] [Enc R] {B S : Type} {N : List Str} {s1 : α1 → Sl} (p1 : PSl K s1) {s2 : α2 → Sl} (p2 : PSl K s2) {s3 : α3 → Sl} (p3 : PSl K s3) {s4 : α4 → Sl} (p4 : PSl K s4) {s5 : α5 → Sl} (p5 : PSl K s5) {ρ : α1 → α2 → α3 → α4 → α5 → List Sl} (e : ∀ a1 a2 a3 a4 a5, [Sl.pot, s1 a1, s2 a2, s3 a3, s4 a4, s5 a5] ++ List.replicate (N.length - 6) Sl.any = ρ a1 a2 a3 a4 a5) {t : TS} {mB : α1 → α2 → α3 → α4 → α5 → M (Ctl R B S)} {ρn : S → List Sl} {ρb : B → List Sl} {C : Option Addr → Prop} (hC : ∀ q, C (some q)) (hr : ∀ a1 a2 a3 a4 a5, RB K T C t (ρ a1 a2 a3 a4 a5) (mB a1 a2 a3 a4 a5) ρn ρb)
    {vs : List V} {H : Hp} {Q : VK} {E : XK} (h : spP5 K T (fun a1 a2 a3 a4 a5 => outW (mB a1 a2 a3 a4 a5)) vs H Q E) : t { nx := fun _ H' => Q .non H', rt := Q } (L2.start N vs) H := by
  obtain ⟨q, n, a1, a2, a3, a4, a5, v1, v2, v3, v4, v5, f1, f2, f3, f4, f5, rfl, ⟨i1, i2, i3, i4, i5, j1, j2, j3, j4, j5⟩, tb, pp, P0, h, hq⟩ := h
  refine end_pot (hr a1 a2 a3 a4 a5) (hC q) rfl ⟨_, st_start (ss := [Sl.pot, s1 a1, s2 a2, s3 a3, s4 a4, s5 a5]) (fps := [[], f1, f2, f3, f4, f5]) tb (fun b o z => ⟨z.1, z.2.1, fun w => z.2.2 (Option.some.inj w).symm⟩) (fun a z => by rw [← Option.some.inj z]; exact pp) rfl (fun i s hi => ?_) (fun i d hi => ?_) (e a1 a2 a3 a4 a5)⟩ h hq
  · match i, hi with
    | 0, hi =>
      obtain rfl := Option.some.inj hi
      exact ⟨q, rfl, rfl⟩
    | 1, hi =>
      obtain rfl := Option.some.inj hi
      exact (p1 _ _ _ _ _ _ i1 (lists_bp i1 j1)).1
    | 2, hi =>
      obtain rfl := Option.some.inj hi
      exact (p2 _ _ _ _ _ _ i2 (lists_bp i2 j2)).1
    | 3, hi =>
      obtain rfl := Option.some.inj hi
      exact (p3 _ _ _ _ _ _ i3 (lists_bp i3 j3)).1
    | 4, hi =>
      obtain rfl := Option.some.inj hi
      exact (p4 _ _ _ _ _ _ i4 (lists_bp i4 j4)).1
    | 5, hi =>
      obtain rfl := Option.some.inj hi
      exact (p5 _ _ _ _ _ _ i5 (lists_bp i5 j5)).1
    | i + 6, hi => cases hi
  · match i, hi with
    | 0, hi => cases hi
    | 1, hi => exact (p1 (fun b o => H b = some o ∧ (∀ ps, o ≠ .tbl ps) ∧ b ≠ q) (some q) H _ _ _ i1 (lists_bp i1 j1)).2 _ (Option.some.inj hi)
    | 2, hi => exact (p2 (fun b o => H b = some o ∧ (∀ ps, o ≠ .tbl ps) ∧ b ≠ q) (some q) H _ _ _ i2 (lists_bp i2 j2)).2 _ (Option.some.inj hi)
    | 3, hi => exact (p3 (fun b o => H b = some o ∧ (∀ ps, o ≠ .tbl ps) ∧ b ≠ q) (some q) H _ _ _ i3 (lists_bp i3 j3)).2 _ (Option.some.inj hi)
    | 4, hi => exact (p4 (fun b o => H b = some o ∧ (∀ ps, o ≠ .tbl ps) ∧ b ≠ q) (some q) H _ _ _ i4 (lists_bp i4 j4)).2 _ (Option.some.inj hi)
    | 5, hi => exact (p5 (fun b o => H b = some o ∧ (∀ ps, o ≠ .tbl ps) ∧ b ≠ q) (some q) H _ _ _ i5 (lists_bp i5 j5)).2 _ (Option.some.inj hi)
    | i + 6, hi => cases hi
theorem re_callp5 {α1 α2 α3 α4 α5 R : Type} [Enc α1] [Enc α2] [Enc α3] [Enc α4] [Enc α5] [Enc R] {f : α1 → α2 → α3 → α4 → α5 → M R} {E : XK} {ip : Nat} (hpot : ρ[ip]? = some .pot) {t1 : TE} {m1 : M α1} {b1 : Bool} (h1 : RE K T t1 ρ b1 m1) {t2 : TE} {m2 : M α2} {b2 : Bool} (h2 : RE K T t2 ρ b2 m2) {t3 : TE} {m3 : M α3} {b3 : Bool} (h3 : RE K T t3 ρ b3 m3) {t4 : TE} {m4 : M α4} {b4 : Bool} (h4 : RE K T t4 ρ b4 m4) {t5 : TE} {m5 : M α5} {b5 : Bool} (h5 : RE K T t5 ρ b5 m5) : RE K T (tCall (spP5 K T f) [] E (tCons (tVar ip) (tCons t1 (tCons t2 (tCons t3 (tCons t4 (tCons t5 tNil))))))) ρ true (c5W m1 m2 m3 m4 m5 f) := fun Bs po φ σ H n st P p Q q =>
  let ⟨u, e1, e2⟩ := st.sl ip _ hpot
  ⟨_, e2,
  h1 Bs po φ σ H n st _ p _ fun a1 n1 v1 H1 f1 p1 x1 i1 g1 =>
  h2 Bs po φ σ H1 n1 (st.af x1) _ p1 _ fun a2 n2 v2 H2 f2 p2 x2 i2 g2 =>
  h3 Bs po φ σ H2 n2 ((st.af x1).af x2) _ p2 _ fun a3 n3 v3 H3 f3 p3 x3 i3 g3 =>
  h4 Bs po φ σ H3 n3 (((st.af x1).af x2).af x3) _ p3 _ fun a4 n4 v4 H4 f4 p4 x4 i4 g4 =>
  h5 Bs po φ σ H4 n4 ((((st.af x1).af x2).af x3).af x4) _ p4 _ fun a5 n5 v5 H5 f5 p5 x5 i5 g5 =>
  ⟨u, n5, _, _, _, _, _, _, _, _, _, _, _, _, _, _, _, rfl, ⟨((((i1.af g1.1 x2.fr).af g1.1 x3.fr).af g1.1 x4.fr).af g1.1 x5.fr), (((i2.af g2.1 x3.fr).af g2.1 x4.fr).af g2.1 x5.fr), ((i3.af g3.1 x4.fr).af g3.1 x5.fr), (i4.af g4.1 x5.fr), i5, fun b hb z => g1.1 b hb (by rw [z]; exact e1), fun b hb z => g2.1 b hb (by rw [z]; exact e1), fun b hb z => g3.1 b hb (by rw [z]; exact e1), fun b hb z => g4.1 b hb (by rw [z]; exact e1), fun b hb z => g5.1 b hb (by rw [z]; exact e1)⟩, (((((st.af x1).af x2).af x3).af x4).af x5).tabs, (((((st.af x1).af x2).af x3).af x4).af x5).pot u e1, _, p5, fun r c v' H' fp pr af im nd hf => q r c v' H' fp pr (Af.trans (Af.trans (Af.trans (Af.trans (Af.trans x1 x2) x3) x4) x5) (by rw [e1]; exact af)) im (Fp.back (Af.trans (Af.trans (Af.trans (Af.trans x1 x2) x3) x4) x5).fr ⟨fun b hb => by rw [e1]; exact fun z => (hf b hb).1 (Option.some.inj z).symm, fun _ => ⟨nd, fun b hb => (hf b hb).2⟩⟩)⟩⟩
def spW6 (K : PySem.W.Frag) (T : List (Addr × Str)) {α1 α2 α3 α4 α5 α6 R : Type} [Enc α1] [Enc α2] [Enc α3] [Enc α4] [Enc α5] [Enc α6] [Enc R] (f : α1 → α2 → α3 → α4 → α5 → α6 → M R) : Sp := fun vs H Q _ => ∃ (a1 : α1) (a2 : α2) (a3 : α3) (a4 : α4) (a5 : α5) (a6 : α6) (v1 v2 v3 v4 v5 v6 : V) (f1 f2 f3 f4 f5 f6 : List Addr), vs = [v1, v2, v3, v4, v5, v6] ∧ (Im K H v1 (enc a1) f1 ∧ Im K H v2 (enc a2) f2 ∧ Im K H v3 (enc a3) f3 ∧ Im K H v4 (enc a4) f4 ∧ Im K H v5 (enc a5) f5 ∧ Im K H v6 (enc a6) f6) ∧ Tabs T H ∧ ∃ P0 : R → Nat → Prop, f a1 a2 a3 a4 a5 a6 0 P0 ∧ ∀ r c v' H' fp, P0 r c → Af K T none H 0 H' 0 → Im K H' v' (enc r) fp → fp.Nodup → (∀ b ∈ fp, Fsh H b) → Q v' H'
theorem spW6_len {α1 α2 α3 α4 α5 α6 R : Type} [Enc α1] [Enc α2] [Enc α3] [Enc α4] [Enc α5] [Enc α6] [Enc R] {f : α1 → α2 → α3 → α4 → α5 → α6 → M R} {vs : List V} {H : Hp} {Q : VK} {E : XK} (h : spW6 K T f vs H Q E) : vs.length = 6 := by
  obtain ⟨a1, a2, a3, a4, a5, a6, v1, v2, v3, v4, v5, v6, f1, f2, f3, f4, f5, f6, rfl, _⟩ := h
  rfl
theorem w6_run {α1 α2 α3 α4 α5 α6 R : Type} [Enc α1] [Enc α2] [Enc α3] [Enc α4] [Enc α5] [Enc α6] [Enc R] {B S : Type} {N : List Str} {s1 : α1 → Sl} (p1 : PSl K s1) {s2 : α2 → Sl} (p2 : PSl K s2) {s3 : α3 → Sl} (p3 : PSl K s3) {s4 : α4 → Sl} (p4 : PSl K s4) {s5 : α5 → Sl} (p5 : PSl K s5) {s6 : α6 → Sl} (p6 : PSl K s6) {ρ : α1 → α2 → α3 → α4 → α5 → α6 → List Sl} (e : ∀ a1 a2 a3 a4 a5 a6, [s1 a1, s2 a2, s3 a3, s4 a4, s5 a5, s6 a6] ++ List.replicate (N.length - 6) Sl.any = ρ a1 a2 a3 a4 a5 a6) {t : TS} {mB : α1 → α2 → α3 → α4 → α5 → α6 → M (Ctl R B S)} {ρn : S → List Sl} {ρb : B → List Sl} {C : Option Addr → Prop} (hC : C none) (hr : ∀ a1 a2 a3 a4 a5 a6, RB K T C t (ρ a1 a2 a3 a4 a5 a6) (mB a1 a2 a3 a4 a5 a6) ρn ρb)
    {vs : List V} {H : Hp} {Q : VK} {E : XK} (h : spW6 K T (fun a1 a2 a3 a4 a5 a6 => outW (mB a1 a2 a3 a4 a5 a6)) vs H Q E) : t { nx := fun _ H' => Q .non H', rt := Q } (L2.start N vs) H := by
  obtain ⟨a1, a2, a3, a4, a5, a6, v1, v2, v3, v4, v5, v6, f1, f2, f3, f4, f5, f6, rfl, ⟨i1, i2, i3, i4, i5, i6⟩, tb, P0, h, hq⟩ := h
  refine end_pure (hr a1 a2 a3 a4 a5 a6) hC rfl ⟨_, st_start (ss := [s1 a1, s2 a2, s3 a3, s4 a4, s5 a5, s6 a6]) (fps := [f1, f2, f3, f4, f5, f6]) tb (fun b o z => ⟨z.1, z.2, by simp⟩) (fun a z => nomatch z) rfl (fun i s hi => ?_) (fun i d hi => ?_) (e a1 a2 a3 a4 a5 a6)⟩ h hq
  · match i, hi with
    | 0, hi =>
      obtain rfl := Option.some.inj hi
      exact (p1 _ _ _ _ _ _ i1 (lists_bs i1)).1
    | 1, hi =>
      obtain rfl := Option.some.inj hi
      exact (p2 _ _ _ _ _ _ i2 (lists_bs i2)).1
    | 2, hi =>
      obtain rfl := Option.some.inj hi
      exact (p3 _ _ _ _ _ _ i3 (lists_bs i3)).1
    | 3, hi =>
      obtain rfl := Option.some.inj hi
      exact (p4 _ _ _ _ _ _ i4 (lists_bs i4)).1
    | 4, hi =>
      obtain rfl := Option.some.inj hi
      exact (p5 _ _ _ _ _ _ i5 (lists_bs i5)).1
    | 5, hi =>
      obtain rfl := Option.some.inj hi
      exact (p6 _ _ _ _ _ _ i6 (lists_bs i6)).1
    | i + 6, hi => cases hi
  · match i, hi with
    | 0, hi => exact (p1 (fun b o => H b = some o ∧ ∀ ps, o ≠ .tbl ps) none H _ _ _ i1 (lists_bs i1)).2 _ (Option.some.inj hi)
    | 1, hi => exact (p2 (fun b o => H b = some o ∧ ∀ ps, o ≠ .tbl ps) none H _ _ _ i2 (lists_bs i2)).2 _ (Option.some.inj hi)
    | 2, hi => exact (p3 (fun b o => H b = some o ∧ ∀ ps, o ≠ .tbl ps) none H _ _ _ i3 (lists_bs i3)).2 _ (Option.some.inj hi)
    | 3, hi => exact (p4 (fun b o => H b = some o ∧ ∀ ps, o ≠ .tbl ps) none H _ _ _ i4 (lists_bs i4)).2 _ (Option.some.inj hi)
    | 4, hi => exact (p5 (fun b o => H b = some o ∧ ∀ ps, o ≠ .tbl ps) none H _ _ _ i5 (lists_bs i5)).2 _ (Option.some.inj hi)
    | 5, hi => exact (p6 (fun b o => H b = some o ∧ ∀ ps, o ≠ .tbl ps) none H _ _ _ i6 (lists_bs i6)).2 _ (Option.some.inj hi)
    | i + 6, hi => cases hi
theorem re_call6 {α1 α2 α3 α4 α5 α6 R : Type} [Enc α1] [Enc α2] [Enc α3] [Enc α4] [Enc α5] [Enc α6] [Enc R] {f : α1 → α2 → α3 → α4 → α5 → α6 → M R} {E : XK} {t1 : TE} {m1 : M α1} {b1 : Bool} (h1 : RE K T t1 ρ b1 m1) {t2 : TE} {m2 : M α2} {b2 : Bool} (h2 : RE K T t2 ρ b2 m2) {t3 : TE} {m3 : M α3} {b3 : Bool} (h3 : RE K T t3 ρ b3 m3) {t4 : TE} {m4 : M α4} {b4 : Bool} (h4 : RE K T t4 ρ b4 m4) {t5 : TE} {m5 : M α5} {b5 : Bool} (h5 : RE K T t5 ρ b5 m5) {t6 : TE} {m6 : M α6} {b6 : Bool} (h6 : RE K T t6 ρ b6 m6) : RE K T (tCall (spW6 K T f) [] E (tCons t1 (tCons t2 (tCons t3 (tCons t4 (tCons t5 (tCons t6 tNil))))))) ρ true (c6W m1 m2 m3 m4 m5 m6 fun a1 a2 a3 a4 a5 a6 => pureW (f a1 a2 a3 a4 a5 a6)) := fun Bs po φ σ H n st P p Q q =>
  h1 Bs po φ σ H n st _ p _ fun a1 n1 v1 H1 f1 p1 x1 i1 g1 =>
  h2 Bs po φ σ H1 n1 (st.af x1) _ p1 _ fun a2 n2 v2 H2 f2 p2 x2 i2 g2 =>
  h3 Bs po φ σ H2 n2 ((st.af x1).af x2) _ p2 _ fun a3 n3 v3 H3 f3 p3 x3 i3 g3 =>
  h4 Bs po φ σ H3 n3 (((st.af x1).af x2).af x3) _ p3 _ fun a4 n4 v4 H4 f4 p4 x4 i4 g4 =>
  h5 Bs po φ σ H4 n4 ((((st.af x1).af x2).af x3).af x4) _ p4 _ fun a5 n5 v5 H5 f5 p5 x5 i5 g5 =>
  h6 Bs po φ σ H5 n5 (((((st.af x1).af x2).af x3).af x4).af x5) _ p5 _ fun a6 n6 v6 H6 f6 p6 x6 i6 g6 =>
  ⟨_, _, _, _, _, _, _, _, _, _, _, _, _, _, _, _, _, _, rfl, ⟨(((((i1.af g1.1 x2.fr).af g1.1 x3.fr).af g1.1 x4.fr).af g1.1 x5.fr).af g1.1 x6.fr), ((((i2.af g2.1 x3.fr).af g2.1 x4.fr).af g2.1 x5.fr).af g2.1 x6.fr), (((i3.af g3.1 x4.fr).af g3.1 x5.fr).af g3.1 x6.fr), ((i4.af g4.1 x5.fr).af g4.1 x6.fr), (i5.af g5.1 x6.fr), i6⟩, ((((((st.af x1).af x2).af x3).af x4).af x5).af x6).tabs, _, p6, fun r c v' H' fp pr af im nd hf => q r n6 v' H' fp pr (Af.trans (Af.trans (Af.trans (Af.trans (Af.trans (Af.trans x1 x2) x3) x4) x5) x6) ⟨Fr.weak af.fr, af.tabs, fun a e z => keep_pot af z⟩) im (Fp.back (Af.trans (Af.trans (Af.trans (Af.trans (Af.trans x1 x2) x3) x4) x5) x6).fr ⟨fun b hb => ((((((st.af x1).af x2).af x3).af x4).af x5).af x6).fresh_pot (hf b hb), fun _ => ⟨nd, hf⟩⟩)⟩
def spP6 (K : PySem.W.Frag) (T : List (Addr × Str)) {α1 α2 α3 α4 α5 α6 R : Type} [Enc α1] [Enc α2] [Enc α3] [Enc α4] [Enc α5] [Enc α6] [Enc R] (f : α1 → α2 → α3 → α4 → α5 → α6 → M R) : Sp := fun vs H Q _ => ∃ (q : Addr) (n : Nat) (a1 : α1) (a2 : α2) (a3 : α3) (a4 : α4) (a5 : α5) (a6 : α6) (v1 v2 v3 v4 v5 v6 : V) (f1 f2 f3 f4 f5 f6 : List Addr), vs = [.ref q, v1, v2, v3, v4, v5, v6] ∧ (Im K H v1 (enc a1) f1 ∧ Im K H v2 (enc a2) f2 ∧ Im K H v3 (enc a3) f3 ∧ Im K H v4 (enc a4) f4 ∧ Im K H v5 (enc a5) f5 ∧ Im K H v6 (enc a6) f6 ∧ (∀ b ∈ f1, b ≠ q) ∧ (∀ b ∈ f2, b ≠ q) ∧ (∀ b ∈ f3, b ≠ q) ∧ (∀ b ∈ f4, b ≠ q) ∧ (∀ b ∈ f5, b ≠ q) ∧ (∀ b ∈ f6, b ≠ q)) ∧ Tabs T H ∧ Pot H q n ∧ ∃ P0 : R → Nat → Prop, f a1 a2 a3 a4 a5 a6 n P0 ∧ ∀ r n' v' H' fp, P0 r n' → Af K T (some q) H n H' n' → Im K H' v' (enc r) fp → fp.Nodup → (∀ b ∈ fp, b ≠ q ∧ Fsh H b) → Q v' H'
theorem spP6_len {α1 α2 α3 α4 α5 α6 R : Type} [Enc α1] [Enc α2] [Enc α3] [Enc α4] [Enc α5] [Enc α6] [Enc R] {f : α1 → α2 → α3 → α4 → α5 → α6 → M R} {vs : List V} {H : Hp} {Q : VK} {E : XK} (h : spP6 K T f vs H Q E) : vs.length = 7 := by
  obtain ⟨q, n, a1, a2, a3, a4, a5, a6, v1, v2, v3, v4, v5, v6, f1, f2, f3, f4, f5, f6, rfl, _⟩ := h
  rfl
theorem p6_run {α1 α2 α3 α4 α5 α6 R : Type} [Enc α1] [Enc α2] [Enc α3] [Enc α4] [Enc α5] [Enc α6] [Enc R] {B S : Type} {N : List Str} {s1 : α1 → Sl} (p1 : PSl K s1) {s2 : α2 → Sl} (p2 : PSl K s2) {s3 : α3 → Sl} (p3 : PSl K s3) {s4 : α4 → Sl} (p4 : PSl K s4) {s5 : α5 → Sl} (p5 : PSl K s5) {s6 : α6 → Sl} (p6 : PSl K s6) {ρ : α1 → α2 → α3 → α4 → α5 → α6 → List Sl} (e : ∀ a1 a2 a3 a4 a5 a6, [Sl.pot, s1 a1, s2 a2, s3 a3, s4 a4, s5 a5, s6 a6] ++ List.replicate (N.length - 7) Sl.any = ρ a1 a2 a3 a4 a5 a6) {t : TS} {mB : α1 → α2 → α3 → α4 → α5 → α6 → M (Ctl R B S)} {ρn : S → List Sl} {ρb : B → List Sl} {C : Option Addr → Prop} (hC : ∀ q, C (some q)) (hr : ∀ a1 a2 a3 a4 a5 a6, RB K T C t (ρ a1 a2 a3 a4 a5 a6) (mB a1 a2 a3 a4 a5 a6) ρn ρb)
    {vs : List V} {H : Hp} {Q : VK} {E : XK} (h : spP6 K T (fun a1 a2 a3 a4 a5 a6 => outW (mB a1 a2 a3 a4 a5 a6)) vs H Q E) : t { nx := fun _ H' => Q .non H', rt := Q } (L2.start N vs) H := by
  obtain ⟨q, n, a1, a2, a3, a4, a5, a6, v1, v2, v3, v4, v5, v6, f1, f2, f3, f4, f5, f6, rfl, ⟨i1, i2, i3, i4, i5, i6, j1, j2, j3, j4, j5, j6⟩, tb, pp, P0, h, hq⟩ := h
  refine end_pot (hr a1 a2 a3 a4 a5 a6) (hC q) rfl ⟨_, st_start (ss := [Sl.pot, s1 a1, s2 a2, s3 a3, s4 a4, s5 a5, s6 a6]) (fps := [[], f1, f2, f3, f4, f5, f6]) tb (fun b o z => ⟨z.1, z.2.1, fun w => z.2.2 (Option.some.inj w).symm⟩) (fun a z => by rw [← Option.some.inj z]; exact pp) rfl (fun i s hi => ?_) (fun i d hi => ?_) (e a1 a2 a3 a4 a5 a6)⟩ h hq
  · match i, hi with
    | 0, hi =>
      obtain rfl := Option.some.inj hi
      exact ⟨q, rfl, rfl⟩
    | 1, hi =>
      obtain rfl := Option.some.inj hi
      exact (p1 _ _ _ _ _ _ i1 (lists_bp i1 j1)).1
    | 2, hi =>
      obtain rfl := Option.some.inj hi
      exact (p2 _ _ _ _ _ _ i2 (lists_bp i2 j2)).1
    | 3, hi =>
      obtain rfl := Option.some.inj hi
      exact (p3 _ _ _ _ _ _ i3 (lists_bp i3 j3)).1
    | 4, hi =>
      obtain rfl := Option.some.inj hi
      exact (p4 _ _ _ _ _ _ i4 (lists_bp i4 j4)).1
    | 5, hi =>
      obtain rfl := Option.some.inj hi
      exact (p5 _ _ _ _ _ _ i5 (lists_bp i5 j5)).1
    | 6, hi =>
      obtain rfl := Option.some.inj hi
      exact (p6 _ _ _ _ _ _ i6 (lists_bp i6 j6)).1
    | i + 7, hi => cases hi
  · match i, hi with
    | 0, hi => cases hi
    | 1, hi => exact (p1 (fun b o => H b = some o ∧ (∀ ps, o ≠ .tbl ps) ∧ b ≠ q) (some q) H _ _ _ i1 (lists_bp i1 j1)).2 _ (Option.some.inj hi)
    | 2, hi => exact (p2 (fun b o => H b = some o ∧ (∀ ps, o ≠ .tbl ps) ∧ b ≠ q) (some q) H _ _ _ i2 (lists_bp i2 j2)).2 _ (Option.some.inj hi)
    | 3, hi => exact (p3 (fun b o => H b = some o ∧ (∀ ps, o ≠ .tbl ps) ∧ b ≠ q) (some q) H _ _ _ i3 (lists_bp i3 j3)).2 _ (Option.some.inj hi)
    | 4, hi => exact (p4 (fun b o => H b = some o ∧ (∀ ps, o ≠ .tbl ps) ∧ b ≠ q) (some q) H _ _ _ i4 (lists_bp i4 j4)).2 _ (Option.some.inj hi)
    | 5, hi => exact (p5 (fun b o => H b = some o ∧ (∀ ps, o ≠ .tbl ps) ∧ b ≠ q) (some q) H _ _ _ i5 (lists_bp i5 j5)).2 _ (Option.some.inj hi)
    | 6, hi => exact (p6 (fun b o => H b = some o ∧ (∀ ps, o ≠ .tbl ps) ∧ b ≠ q) (some q) H _ _ _ i6 (lists_bp i6 j6)).2 _ (Option.some.inj hi)
    | i + 7, hi => cases hi
theorem re_callp6 {α1 α2 α3 α4 α5 α6 R : Type} [Enc α1] [Enc α2] [Enc α3] [Enc α4] [Enc α5] [Enc α6] [Enc R] {f : α1 → α2 → α3 → α4 → α5 → α6 → M R} {E : XK} {ip : Nat} (hpot : ρ[ip]? = some .pot) {t1 : TE} {m1 : M α1} {b1 : Bool} (h1 : RE K T t1 ρ b1 m1) {t2 : TE} {m2 : M α2} {b2 : Bool} (h2 : RE K T t2 ρ b2 m2) {t3 : TE} {m3 : M α3} {b3 : Bool} (h3 : RE K T t3 ρ b3 m3) {t4 : TE} {m4 : M α4} {b4 : Bool} (h4 : RE K T t4 ρ b4 m4) {t5 : TE} {m5 : M α5} {b5 : Bool} (h5 : RE K T t5 ρ b5 m5) {t6 : TE} {m6 : M α6} {b6 : Bool} (h6 : RE K T t6 ρ b6 m6) : RE K T (tCall (spP6 K T f) [] E (tCons (tVar ip) (tCons t1 (tCons t2 (tCons t3 (tCons t4 (tCons t5 (tCons t6 tNil)))))))) ρ true (c6W m1 m2 m3 m4 m5 m6 f) := fun Bs po φ σ H n st P p Q q =>
  let ⟨u, e1, e2⟩ := st.sl ip _ hpot
  ⟨_, e2,
  h1 Bs po φ σ H n st _ p _ fun a1 n1 v1 H1 f1 p1 x1 i1 g1 =>
  h2 Bs po φ σ H1 n1 (st.af x1) _ p1 _ fun a2 n2 v2 H2 f2 p2 x2 i2 g2 =>
  h3 Bs po φ σ H2 n2 ((st.af x1).af x2) _ p2 _ fun a3 n3 v3 H3 f3 p3 x3 i3 g3 =>
  h4 Bs po φ σ H3 n3 (((st.af x1).af x2).af x3) _ p3 _ fun a4 n4 v4 H4 f4 p4 x4 i4 g4 =>
  h5 Bs po φ σ H4 n4 ((((st.af x1).af x2).af x3).af x4) _ p4 _ fun a5 n5 v5 H5 f5 p5 x5 i5 g5 =>
  h6 Bs po φ σ H5 n5 (((((st.af x1).af x2).af x3).af x4).af x5) _ p5 _ fun a6 n6 v6 H6 f6 p6 x6 i6 g6 =>
  ⟨u, n6, _, _, _, _, _, _, _, _, _, _, _, _, _, _, _, _, _, _, rfl, ⟨(((((i1.af g1.1 x2.fr).af g1.1 x3.fr).af g1.1 x4.fr).af g1.1 x5.fr).af g1.1 x6.fr), ((((i2.af g2.1 x3.fr).af g2.1 x4.fr).af g2.1 x5.fr).af g2.1 x6.fr), (((i3.af g3.1 x4.fr).af g3.1 x5.fr).af g3.1 x6.fr), ((i4.af g4.1 x5.fr).af g4.1 x6.fr), (i5.af g5.1 x6.fr), i6, fun b hb z => g1.1 b hb (by rw [z]; exact e1), fun b hb z => g2.1 b hb (by rw [z]; exact e1), fun b hb z => g3.1 b hb (by rw [z]; exact e1), fun b hb z => g4.1 b hb (by rw [z]; exact e1), fun b hb z => g5.1 b hb (by rw [z]; exact e1), fun b hb z => g6.1 b hb (by rw [z]; exact e1)⟩, ((((((st.af x1).af x2).af x3).af x4).af x5).af x6).tabs, ((((((st.af x1).af x2).af x3).af x4).af x5).af x6).pot u e1, _, p6, fun r c v' H' fp pr af im nd hf => q r c v' H' fp pr (Af.trans (Af.trans (Af.trans (Af.trans (Af.trans (Af.trans x1 x2) x3) x4) x5) x6) (by rw [e1]; exact af)) im (Fp.back (Af.trans (Af.trans (Af.trans (Af.trans (Af.trans x1 x2) x3) x4) x5) x6).fr ⟨fun b hb => by rw [e1]; exact fun z => (hf b hb).1 (Option.some.inj z).symm, fun _ => ⟨nd, fun b hb => (hf b hb).2⟩⟩)⟩⟩
def spW7 (K : PySem.W.Frag) (T : List (Addr × Str)) {α1 α2 α3 α4 α5 α6 α7 R : Type} [Enc α1] [Enc α2] [Enc α3] [Enc α4] [Enc α5] [Enc α6] [Enc α7] [Enc R] (f : α1 → α2 → α3 → α4 → α5 → α6 → α7 → M R) : Sp := fun vs H Q _ => ∃ (a1 : α1) (a2 : α2) (a3 : α3) (a4 : α4) (a5 : α5) (a6 : α6) (a7 : α7) (v1 v2 v3 v4 v5 v6 v7 : V) (f1 f2 f3 f4 f5 f6 f7 : List Addr), vs = [v1, v2, v3, v4, v5, v6, v7] ∧ (Im K H v1 (enc a1) f1 ∧ Im K H v2 (enc a2) f2 ∧ Im K H v3 (enc a3) f3 ∧ Im K H v4 (enc a4) f4 ∧ Im K H v5 (enc a5) f5 ∧ Im K H v6 (enc a6) f6 ∧ Im K H v7 (enc a7) f7) ∧ Tabs T H ∧ ∃ P0 : R → Nat → Prop, f a1 a2 a3 a4 a5 a6 a7 0 P0 ∧ ∀ r c v' H' fp, P0 r c → Af K T none H 0 H' 0 → Im K H' v' (enc r) fp → fp.Nodup → (∀ b ∈ fp, Fsh H b) → Q v' H'
theorem spW7_len {α1 α2 α3 α4 α5 α6 α7 R : Type} [Enc α1] [Enc α2] [Enc α3] [Enc α4] [Enc α5] [Enc α6] [Enc α7] [Enc R] {f : α1 → α2 → α3 → α4 → α5 → α6 → α7 → M R} {vs : List V} {H : Hp} {Q : VK} {E : XK} (h : spW7 K T f vs H Q E) : vs.length = 7 := by
  obtain ⟨a1, a2, a3, a4, a5, a6, a7, v1, v2, v3, v4, v5, v6, v7, f1, f2, f3, f4, f5, f6, f7, rfl, _⟩ := h
  rfl
theorem w7_run {α1 α2 α3 α4 α5 α6 α7 R : Type} [Enc α1] [Enc α2] [Enc α3] [Enc α4] [Enc α5] [Enc α6] [Enc α7] [Enc R] {B S : Type} {N : List Str} {s1 : α1 → Sl} (p1 : PSl K s1) {s2 : α2 → Sl} (p2 : PSl K s2) {s3 : α3 → Sl} (p3 : PSl K s3) {s4 : α4 → Sl} (p4 : PSl K s4) {s5 : α5 → Sl} (p5 : PSl K s5) {s6 : α6 → Sl} (p6 : PSl K s6) {s7 : α7 → Sl} (p7 : PSl K s7) {ρ : α1 → α2 → α3 → α4 → α5 → α6 → α7 → List Sl} (e : ∀ a1 a2 a3 a4 a5 a6 a7, [s1 a1, s2 a2, s3 a3, s4 a4, s5 a5, s6 a6, s7 a7] ++ List.replicate (N.length - 7) Sl.any = ρ a1 a2 a3 a4 a5 a6 a7) {t : TS} {mB : α1 → α2 → α3 → α4 → α5 → α6 → α7 → M (Ctl R B S)} {ρn : S → List Sl} {ρb : B → List Sl} {C : Option Addr → Prop} (hC : C none) (hr : ∀ a1 a2 a3 a4 a5 a6 a7, RB K T C t (ρ a1 a2 a3 a4 a5 a6 a7) (mB a1 a2 a3 a4 a5 a6 a7) ρn ρb)
    {vs : List V} {H : Hp} {Q : VK} {E : XK} (h : spW7 K T (fun a1 a2 a3 a4 a5 a6 a7 => outW (mB a1 a2 a3 a4 a5 a6 a7)) vs H Q E) : t { nx := fun _ H' => Q .non H', rt := Q } (L2.start N vs) H := by
  obtain ⟨a1, a2, a3, a4, a5, a6, a7, v1, v2, v3, v4, v5, v6, v7, f1, f2, f3, f4, f5, f6, f7, rfl, ⟨i1, i2, i3, i4, i5, i6, i7⟩, tb, P0, h, hq⟩ := h
  refine end_pure (hr a1 a2 a3 a4 a5 a6 a7) hC rfl ⟨_, st_start (ss := [s1 a1, s2 a2, s3 a3, s4 a4, s5 a5, s6 a6, s7 a7]) (fps := [f1, f2, f3, f4, f5, f6, f7]) tb (fun b o z => ⟨z.1, z.2, by simp⟩) (fun a z => nomatch z) rfl (fun i s hi => ?_) (fun i d hi => ?_) (e a1 a2 a3 a4 a5 a6 a7)⟩ h hq
  · match i, hi with
    | 0, hi =>
      obtain rfl := Option.some.inj hi
      exact (p1 _ _ _ _ _ _ i1 (lists_bs i1)).1
    | 1, hi =>
      obtain rfl := Option.some.inj hi
      exact (p2 _ _ _ _ _ _ i2 (lists_bs i2)).1
    | 2, hi =>
      obtain rfl := Option.some.inj hi
      exact (p3 _ _ _ _ _ _ i3 (lists_bs i3)).1
    | 3, hi =>
      obtain rfl := Option.some.inj hi
      exact (p4 _ _ _ _ _ _ i4 (lists_bs i4)).1
    | 4, hi =>
      obtain rfl := Option.some.inj hi
      exact (p5 _ _ _ _ _ _ i5 (lists_bs i5)).1
    | 5, hi =>
      obtain rfl := Option.some.inj hi
      exact (p6 _ _ _ _ _ _ i6 (lists_bs i6)).1
    | 6, hi =>
      obtain rfl := Option.some.inj hi
      exact (p7 _ _ _ _ _ _ i7 (lists_bs i7)).1
    | i + 7, hi => cases hi
  · match i, hi with
    | 0, hi => exact (p1 (fun b o => H b = some o ∧ ∀ ps, o ≠ .tbl ps) none H _ _ _ i1 (lists_bs i1)).2 _ (Option.some.inj hi)
    | 1, hi => exact (p2 (fun b o => H b = some o ∧ ∀ ps, o ≠ .tbl ps) none H _ _ _ i2 (lists_bs i2)).2 _ (Option.some.inj hi)
    | 2, hi => exact (p3 (fun b o => H b = some o ∧ ∀ ps, o ≠ .tbl ps) none H _ _ _ i3 (lists_bs i3)).2 _ (Option.some.inj hi)
    | 3, hi => exact (p4 (fun b o => H b = some o ∧ ∀ ps, o ≠ .tbl ps) none H _ _ _ i4 (lists_bs i4)).2 _ (Option.some.inj hi)
    | 4, hi => exact (p5 (fun b o => H b = some o ∧ ∀ ps, o ≠ .tbl ps) none H _ _ _ i5 (lists_bs i5)).2 _ (Option.some.inj hi)
    | 5, hi => exact (p6 (fun b o => H b = some o ∧ ∀ ps, o ≠ .tbl ps) none H _ _ _ i6 (lists_bs i6)).2 _ (Option.some.inj hi)
    | 6, hi => exact (p7 (fun b o => H b = some o ∧ ∀ ps, o ≠ .tbl ps) none H _ _ _ i7 (lists_bs i7)).2 _ (Option.some.inj hi)
    | i + 7, hi => cases hi
theorem re_call7 {α1 α2 α3 α4 α5 α6 α7 R : Type} [Enc α1] [Enc α2] [Enc α3] [Enc α4] [Enc α5] [Enc α6] [Enc α7] [Enc R] {f : α1 → α2 → α3 → α4 → α5 → α6 → α7 → M R} {E : XK} {t1 : TE} {m1 : M α1} {b1 : Bool} (h1 : RE K T t1 ρ b1 m1) {t2 : TE} {m2 : M α2} {b2 : Bool} (h2 : RE K T t2 ρ b2 m2) {t3 : TE} {m3 : M α3} {b3 : Bool} (h3 : RE K T t3 ρ b3 m3) {t4 : TE} {m4 : M α4} {b4 : Bool} (h4 : RE K T t4 ρ b4 m4) {t5 : TE} {m5 : M α5} {b5 : Bool} (h5 : RE K T t5 ρ b5 m5) {t6 : TE} {m6 : M α6} {b6 : Bool} (h6 : RE K T t6 ρ b6 m6) {t7 : TE} {m7 : M α7} {b7 : Bool} (h7 : RE K T t7 ρ b7 m7) : RE K T (tCall (spW7 K T f) [] E (tCons t1 (tCons t2 (tCons t3 (tCons t4 (tCons t5 (tCons t6 (tCons t7 tNil)))))))) ρ true (c7W m1 m2 m3 m4 m5 m6 m7 fun a1 a2 a3 a4 a5 a6 a7 => pureW (f a1 a2 a3 a4 a5 a6 a7)) := fun Bs po φ σ H n st P p Q q =>
  h1 Bs po φ σ H n st _ p _ fun a1 n1 v1 H1 f1 p1 x1 i1 g1 =>
  h2 Bs po φ σ H1 n1 (st.af x1) _ p1 _ fun a2 n2 v2 H2 f2 p2 x2 i2 g2 =>
  h3 Bs po φ σ H2 n2 ((st.af x1).af x2) _ p2 _ fun a3 n3 v3 H3 f3 p3 x3 i3 g3 =>
  h4 Bs po φ σ H3 n3 (((st.af x1).af x2).af x3) _ p3 _ fun a4 n4 v4 H4 f4 p4 x4 i4 g4 =>
  h5 Bs po φ σ H4 n4 ((((st.af x1).af x2).af x3).af x4) _ p4 _ fun a5 n5 v5 H5 f5 p5 x5 i5 g5 =>
  h6 Bs po φ σ H5 n5 (((((st.af x1).af x2).af x3).af x4).af x5) _ p5 _ fun a6 n6 v6 H6 f6 p6 x6 i6 g6 =>
  h7 Bs po φ σ H6 n6 ((((((st.af x1).af x2).af x3).af x4).af x5).af x6) _ p6 _ fun a7 n7 v7 H7 f7 p7 x7 i7 g7 =>
  ⟨_, _, _, _, _, _, _, _, _, _, _, _, _, _, _, _, _, _, _, _, _, rfl, ⟨((((((i1.af g1.1 x2.fr).af g1.1 x3.fr).af g1.1 x4.fr).af g1.1 x5.fr).af g1.1 x6.fr).af g1.1 x7.fr), (((((i2.af g2.1 x3.fr).af g2.1 x4.fr).af g2.1 x5.fr).af g2.1 x6.fr).af g2.1 x7.fr), ((((i3.af g3.1 x4.fr).af g3.1 x5.fr).af g3.1 x6.fr).af g3.1 x7.fr), (((i4.af g4.1 x5.fr).af g4.1 x6.fr).af g4.1 x7.fr), ((i5.af g5.1 x6.fr).af g5.1 x7.fr), (i6.af g6.1 x7.fr), i7⟩, (((((((st.af x1).af x2).af x3).af x4).af x5).af x6).af x7).tabs, _, p7, fun r c v' H' fp pr af im nd hf => q r n7 v' H' fp pr (Af.trans (Af.trans (Af.trans (Af.trans (Af.trans (Af.trans (Af.trans x1 x2) x3) x4) x5) x6) x7) ⟨Fr.weak af.fr, af.tabs, fun a e z => keep_pot af z⟩) im (Fp.back (Af.trans (Af.trans (Af.trans (Af.trans (Af.trans (Af.trans x1 x2) x3) x4) x5) x6) x7).fr ⟨fun b hb => (((((((st.af x1).af x2).af x3).af x4).af x5).af x6).af x7).fresh_pot (hf b hb), fun _ => ⟨nd, hf⟩⟩)⟩
def spP7 (K : PySem.W.Frag) (T : List (Addr × Str)) {α1 α2 α3 α4 α5 α6 α7 R : Type} [Enc α1] [Enc α2] [Enc α3] [Enc α4] [Enc α5] [Enc α6] [Enc α7] [Enc R] (f : α1 → α2 → α3 → α4 → α5 → α6 → α7 → M R) : Sp := fun vs H Q _ => ∃ (q : Addr) (n : Nat) (a1 : α1) (a2 : α2) (a3 : α3) (a4 : α4) (a5 : α5) (a6 : α6) (a7 : α7) (v1 v2 v3 v4 v5 v6 v7 : V) (f1 f2 f3 f4 f5 f6 f7 : List Addr), vs = [.ref q, v1, v2, v3, v4, v5, v6, v7] ∧ (Im K H v1 (enc a1) f1 ∧ Im K H v2 (enc a2) f2 ∧ Im K H v3 (enc a3) f3 ∧ Im K H v4 (enc a4) f4 ∧ Im K H v5 (enc a5) f5 ∧ Im K H v6 (enc a6) f6 ∧ Im K H v7 (enc a7) f7 ∧ (∀ b ∈ f1, b ≠ q) ∧ (∀ b ∈ f2, b ≠ q) ∧ (∀ b ∈ f3, b ≠ q) ∧ (∀ b ∈ f4, b ≠ q) ∧ (∀ b ∈ f5, b ≠ q) ∧ (∀ b ∈ f6, b ≠ q) ∧ (∀ b ∈ f7, b ≠ q)) ∧ Tabs T H ∧ Pot H q n ∧ ∃ P0 : R → Nat → Prop, f a1 a2 a3 a4 a5 a6 a7 n P0 ∧ ∀ r n' v' H' fp, P0 r n' → Af K T (some q) H n H' n' → Im K H' v' (enc r) fp → fp.Nodup → (∀ b ∈ fp, b ≠ q ∧ Fsh H b) → Q v' H'
theorem spP7_len {α1 α2 α3 α4 α5 α6 α7 R : Type} [Enc α1] [Enc α2] [Enc α3] [Enc α4] [Enc α5] [Enc α6] [Enc α7] [Enc R] {f : α1 → α2 → α3 → α4 → α5 → α6 → α7 → M R} {vs : List V} {H : Hp} {Q : VK} {E : XK} (h : spP7 K T f vs H Q E) : vs.length = 8 := by
  obtain ⟨q, n, a1, a2, a3, a4, a5, a6, a7, v1, v2, v3, v4, v5, v6, v7, f1, f2, f3, f4, f5, f6, f7, rfl, _⟩ := h
  rfl
theorem p7_run {α1 α2 α3 α4 α5 α6 α7 R : Type} [Enc α1] [Enc α2] [Enc α3] [Enc α4] [Enc α5] [Enc α6] [Enc α7] [Enc R] {B S : Type} {N : List Str} {s1 : α1 → Sl} (p1 : PSl K s1) {s2 : α2 → Sl} (p2 : PSl K s2) {s3 : α3 → Sl} (p3 : PSl K s3) {s4 : α4 → Sl} (p4 : PSl K s4) {s5 : α5 → Sl} (p5 : PSl K s5) {s6 : α6 → Sl} (p6 : PSl K s6) {s7 : α7 → Sl} (p7 : PSl K s7) {ρ : α1 → α2 → α3 → α4 → α5 → α6 → α7 → List Sl} (e : ∀ a1 a2 a3 a4 a5 a6 a7, [Sl.pot, s1 a1, s2 a2, s3 a3, s4 a4, s5 a5, s6 a6, s7 a7] ++ List.replicate (N.length - 8) Sl.any = ρ a1 a2 a3 a4 a5 a6 a7) {t : TS} {mB : α1 → α2 → α3 → α4 → α5 → α6 → α7 → M (Ctl R B S)} {ρn : S → List Sl} {ρb : B → List Sl} {C : Option Addr → Prop} (hC : ∀ q, C (some q)) (hr : ∀ a1 a2 a3 a4 a5 a6 a7, RB K T C t (ρ a1 a2 a3 a4 a5 a6 a7) (mB a1 a2 a3 a4 a5 a6 a7) ρn ρb)
    {vs : List V} {H : Hp} {Q : VK} {E : XK} (h : spP7 K T (fun a1 a2 a3 a4 a5 a6 a7 => outW (mB a1 a2 a3 a4 a5 a6 a7)) vs H Q E) : t { nx := fun _ H' => Q .non H', rt := Q } (L2.start N vs) H := by
  obtain ⟨q, n, a1, a2, a3, a4, a5, a6, a7, v1, v2, v3, v4, v5, v6, v7, f1, f2, f3, f4, f5, f6, f7, rfl, ⟨i1, i2, i3, i4, i5, i6, i7, j1, j2, j3, j4, j5, j6, j7⟩, tb, pp, P0, h, hq⟩ := h
  refine end_pot (hr a1 a2 a3 a4 a5 a6 a7) (hC q) rfl ⟨_, st_start (ss := [Sl.pot, s1 a1, s2 a2, s3 a3, s4 a4, s5 a5, s6 a6, s7 a7]) (fps := [[], f1, f2, f3, f4, f5, f6, f7]) tb (fun b o z => ⟨z.1, z.2.1, fun w => z.2.2 (Option.some.inj w).symm⟩) (fun a z => by rw [← Option.some.inj z]; exact pp) rfl (fun i s hi => ?_) (fun i d hi => ?_) (e a1 a2 a3 a4 a5 a6 a7)⟩ h hq
  · match i, hi with
    | 0, hi =>
      obtain rfl := Option.some.inj hi
      exact ⟨q, rfl, rfl⟩
    | 1, hi =>
      obtain rfl := Option.some.inj hi
      exact (p1 _ _ _ _ _ _ i1 (lists_bp i1 j1)).1
    | 2, hi =>
      obtain rfl := Option.some.inj hi
      exact (p2 _ _ _ _ _ _ i2 (lists_bp i2 j2)).1
    | 3, hi =>
      obtain rfl := Option.some.inj hi
      exact (p3 _ _ _ _ _ _ i3 (lists_bp i3 j3)).1
    | 4, hi =>
      obtain rfl := Option.some.inj hi
      exact (p4 _ _ _ _ _ _ i4 (lists_bp i4 j4)).1
    | 5, hi =>
      obtain rfl := Option.some.inj hi
      exact (p5 _ _ _ _ _ _ i5 (lists_bp i5 j5)).1
    | 6, hi =>
      obtain rfl := Option.some.inj hi
      exact (p6 _ _ _ _ _ _ i6 (lists_bp i6 j6)).1
    | 7, hi =>
      obtain rfl := Option.some.inj hi
      exact (p7 _ _ _ _ _ _ i7 (lists_bp i7 j7)).1
    | i + 8, hi => cases hi
  · match i, hi with
    | 0, hi => cases hi
    | 1, hi => exact (p1 (fun b o => H b = some o ∧ (∀ ps, o ≠ .tbl ps) ∧ b ≠ q) (some q) H _ _ _ i1 (lists_bp i1 j1)).2 _ (Option.some.inj hi)
    | 2, hi => exact (p2 (fun b o => H b = some o ∧ (∀ ps, o ≠ .tbl ps) ∧ b ≠ q) (some q) H _ _ _ i2 (lists_bp i2 j2)).2 _ (Option.some.inj hi)
    | 3, hi => exact (p3 (fun b o => H b = some o ∧ (∀ ps, o ≠ .tbl ps) ∧ b ≠ q) (some q) H _ _ _ i3 (lists_bp i3 j3)).2 _ (Option.some.inj hi)
    | 4, hi => exact (p4 (fun b o => H b = some o ∧ (∀ ps, o ≠ .tbl ps) ∧ b ≠ q) (some q) H _ _ _ i4 (lists_bp i4 j4)).2 _ (Option.some.inj hi)
    | 5, hi => exact (p5 (fun b o => H b = some o ∧ (∀ ps, o ≠ .tbl ps) ∧ b ≠ q) (some q) H _ _ _ i5 (lists_bp i5 j5)).2 _ (Option.some.inj hi)
    | 6, hi => exact (p6 (fun b o => H b = some o ∧ (∀ ps, o ≠ .tbl ps) ∧ b ≠ q) (some q) H _ _ _ i6 (lists_bp i6 j6)).2 _ (Option.some.inj hi)
    | 7, hi => exact (p7 (fun b o => H b = some o ∧ (∀ ps, o ≠ .tbl ps) ∧ b ≠ q) (some q) H _ _ _ i7 (lists_bp i7 j7)).2 _ (Option.some.inj hi)
    | i + 8, hi => cases hi
theorem re_callp7 {α1 α2 α3 α4 α5 α6 α7 R : Type} [Enc α1] [Enc α2] [Enc α3] [Enc α4] [Enc α5] [Enc α6] [Enc α7] [Enc R] {f : α1 → α2 → α3 → α4 → α5 → α6 → α7 → M R} {E : XK} {ip : Nat} (hpot : ρ[ip]? = some .pot) {t1 : TE} {m1 : M α1} {b1 : Bool} (h1 : RE K T t1 ρ b1 m1) {t2 : TE} {m2 : M α2} {b2 : Bool} (h2 : RE K T t2 ρ b2 m2) {t3 : TE} {m3 : M α3} {b3 : Bool} (h3 : RE K T t3 ρ b3 m3) {t4 : TE} {m4 : M α4} {b4 : Bool} (h4 : RE K T t4 ρ b4 m4) {t5 : TE} {m5 : M α5} {b5 : Bool} (h5 : RE K T t5 ρ b5 m5) {t6 : TE} {m6 : M α6} {b6 : Bool} (h6 : RE K T t6 ρ b6 m6) {t7 : TE} {m7 : M α7} {b7 : Bool} (h7 : RE K T t7 ρ b7 m7) : RE K T (tCall (spP7 K T f) [] E (tCons (tVar ip) (tCons t1 (tCons t2 (tCons t3 (tCons t4 (tCons t5 (tCons t6 (tCons t7 tNil))))))))) ρ true (c7W m1 m2 m3 m4 m5 m6 m7 f) := fun Bs po φ σ H n st P p Q q =>
  let ⟨u, e1, e2⟩ := st.sl ip _ hpot
  ⟨_, e2,
  h1 Bs po φ σ H n st _ p _ fun a1 n1 v1 H1 f1 p1 x1 i1 g1 =>
  h2 Bs po φ σ H1 n1 (st.af x1) _ p1 _ fun a2 n2 v2 H2 f2 p2 x2 i2 g2 =>
  h3 Bs po φ σ H2 n2 ((st.af x1).af x2) _ p2 _ fun a3 n3 v3 H3 f3 p3 x3 i3 g3 =>
  h4 Bs po φ σ H3 n3 (((st.af x1).af x2).af x3) _ p3 _ fun a4 n4 v4 H4 f4 p4 x4 i4 g4 =>
  h5 Bs po φ σ H4 n4 ((((st.af x1).af x2).af x3).af x4) _ p4 _ fun a5 n5 v5 H5 f5 p5 x5 i5 g5 =>
  h6 Bs po φ σ H5 n5 (((((st.af x1).af x2).af x3).af x4).af x5) _ p5 _ fun a6 n6 v6 H6 f6 p6 x6 i6 g6 =>
  h7 Bs po φ σ H6 n6 ((((((st.af x1).af x2).af x3).af x4).af x5).af x6) _ p6 _ fun a7 n7 v7 H7 f7 p7 x7 i7 g7 =>
  ⟨u, n7, _, _, _, _, _, _, _, _, _, _, _, _, _, _, _, _, _, _, _, _, _, rfl, ⟨((((((i1.af g1.1 x2.fr).af g1.1 x3.fr).af g1.1 x4.fr).af g1.1 x5.fr).af g1.1 x6.fr).af g1.1 x7.fr), (((((i2.af g2.1 x3.fr).af g2.1 x4.fr).af g2.1 x5.fr).af g2.1 x6.fr).af g2.1 x7.fr), ((((i3.af g3.1 x4.fr).af g3.1 x5.fr).af g3.1 x6.fr).af g3.1 x7.fr), (((i4.af g4.1 x5.fr).af g4.1 x6.fr).af g4.1 x7.fr), ((i5.af g5.1 x6.fr).af g5.1 x7.fr), (i6.af g6.1 x7.fr), i7, fun b hb z => g1.1 b hb (by rw [z]; exact e1), fun b hb z => g2.1 b hb (by rw [z]; exact e1), fun b hb z => g3.1 b hb (by rw [z]; exact e1), fun b hb z => g4.1 b hb (by rw [z]; exact e1), fun b hb z => g5.1 b hb (by rw [z]; exact e1), fun b hb z => g6.1 b hb (by rw [z]; exact e1), fun b hb z => g7.1 b hb (by rw [z]; exact e1)⟩, (((((((st.af x1).af x2).af x3).af x4).af x5).af x6).af x7).tabs, (((((((st.af x1).af x2).af x3).af x4).af x5).af x6).af x7).pot u e1, _, p7, fun r c v' H' fp pr af im nd hf => q r c v' H' fp pr (Af.trans (Af.trans (Af.trans (Af.trans (Af.trans (Af.trans (Af.trans x1 x2) x3) x4) x5) x6) x7) (by rw [e1]; exact af)) im (Fp.back (Af.trans (Af.trans (Af.trans (Af.trans (Af.trans (Af.trans x1 x2) x3) x4) x5) x6) x7).fr ⟨fun b hb => by rw [e1]; exact fun z => (hf b hb).1 (Option.some.inj z).symm, fun _ => ⟨nd, fun b hb => (hf b hb).2⟩⟩)⟩⟩
def spW8 (K : PySem.W.Frag) (T : List (Addr × Str)) {α1 α2 α3 α4 α5 α6 α7 α8 R : Type} [Enc α1] [Enc α2] [Enc α3] [Enc α4] [Enc α5] [Enc α6] [Enc α7] [Enc α8] [Enc R] (f : α1 → α2 → α3 → α4 → α5 → α6 → α7 → α8 → M R) : Sp := fun vs H Q _ => ∃ (a1 : α1) (a2 : α2) (a3 : α3) (a4 : α4) (a5 : α5) (a6 : α6) (a7 : α7) (a8 : α8) (v1 v2 v3 v4 v5 v6 v7 v8 : V) (f1 f2 f3 f4 f5 f6 f7 f8 : List Addr), vs = [v1, v2, v3, v4, v5, v6, v7, v8] ∧ (Im K H v1 (enc a1) f1 ∧ Im K H v2 (enc a2) f2 ∧ Im K H v3 (enc a3) f3 ∧ Im K H v4 (enc a4) f4 ∧ Im K H v5 (enc a5) f5 ∧ Im K H v6 (enc a6) f6 ∧ Im K H v7 (enc a7) f7 ∧ Im K H v8 (enc a8) f8) ∧ Tabs T H ∧ ∃ P0 : R → Nat → Prop, f a1 a2 a3 a4 a5 a6 a7 a8 0 P0 ∧ ∀ r c v' H' fp, P0 r c → Af K T none H 0 H' 0 → Im K H' v' (enc r) fp → fp.Nodup → (∀ b ∈ fp, Fsh H b) → Q v' H'
theorem spW8_len {α1 α2 α3 α4 α5 α6 α7 α8 R : Type} [Enc α1] [Enc α2] [Enc α3] [Enc α4] [Enc α5] [Enc α6] [Enc α7] [Enc α8] [Enc R] {f : α1 → α2 → α3 → α4 → α5 → α6 → α7 → α8 → M R} {vs : List V} {H : Hp} {Q : VK} {E : XK} (h : spW8 K T f vs H Q E) : vs.length = 8 := by
  obtain ⟨a1, a2, a3, a4, a5, a6, a7, a8, v1, v2, v3, v4, v5, v6, v7, v8, f1, f2, f3, f4, f5, f6, f7, f8, rfl, _⟩ := h
  rfl
theorem w8_run {α1 α2 α3 α4 α5 α6 α7 α8 R : Type} [Enc α1] [Enc α2] [Enc α3] [Enc α4] [Enc α5] [Enc α6] [Enc α7] [Enc α8] [Enc R] {B S : Type} {N : List Str} {s1 : α1 → Sl} (p1 : PSl K s1) {s2 : α2 → Sl} (p2 : PSl K s2) {s3 : α3 → Sl} (p3 : PSl K s3) {s4 : α4 → Sl} (p4 : PSl K s4) {s5 : α5 → Sl} (p5 : PSl K s5) {s6 : α6 → Sl} (p6 : PSl K s6) {s7 : α7 → Sl} (p7 : PSl K s7) {s8 : α8 → Sl} (p8 : PSl K s8) {ρ : α1 → α2 → α3 → α4 → α5 → α6 → α7 → α8 → List Sl} (e : ∀ a1 a2 a3 a4 a5 a6 a7 a8, [s1 a1, s2 a2, s3 a3, s4 a4, s5 a5, s6 a6, s7 a7, s8 a8] ++ List.replicate (N.length - 8) Sl.any = ρ a1 a2 a3 a4 a5 a6 a7 a8) {t : TS} {mB : α1 → α2 → α3 → α4 → α5 → α6 → α7 → α8 → M (Ctl R B S)} {ρn : S → List Sl} {ρb : B → List Sl} {C : Option Addr → Prop} (hC : C none) (hr : ∀ a1 a2 a3 a4 a5 a6 a7 a8, RB K T C t (ρ a1 a2 a3 a4 a5 a6 a7 a8) (mB a1 a2 a3 a4 a5 a6 a7 a8) ρn ρb)
    {vs : List V} {H : Hp} {Q : VK} {E : XK} (h : spW8 K T (fun a1 a2 a3 a4 a5 a6 a7 a8 => outW (mB a1 a2 a3 a4 a5 a6 a7 a8)) vs H Q E) : t { nx := fun _ H' => Q .non H', rt := Q } (L2.start N vs) H := by
  obtain ⟨a1, a2, a3, a4, a5, a6, a7, a8, v1, v2, v3, v4, v5, v6, v7, v8, f1, f2, f3, f4, f5, f6, f7, f8, rfl, ⟨i1, i2, i3, i4, i5, i6, i7, i8⟩, tb, P0, h, hq⟩ := h
  refine end_pure (hr a1 a2 a3 a4 a5 a6 a7 a8) hC rfl ⟨_, st_start (ss := [s1 a1, s2 a2, s3 a3, s4 a4, s5 a5, s6 a6, s7 a7, s8 a8]) (fps := [f1, f2, f3, f4, f5, f6, f7, f8]) tb (fun b o z => ⟨z.1, z.2, by simp⟩) (fun a z => nomatch z) rfl (fun i s hi => ?_) (fun i d hi => ?_) (e a1 a2 a3 a4 a5 a6 a7 a8)⟩ h hq
  · match i, hi with
    | 0, hi =>
      obtain rfl := Option.some.inj hi
      exact (p1 _ _ _ _ _ _ i1 (lists_bs i1)).1
    | 1, hi =>
      obtain rfl := Option.some.inj hi
      exact (p2 _ _ _ _ _ _ i2 (lists_bs i2)).1
    | 2, hi =>
      obtain rfl := Option.some.inj hi
      exact (p3 _ _ _ _ _ _ i3 (lists_bs i3)).1
    | 3, hi =>
      obtain rfl := Option.some.inj hi
      exact (p4 _ _ _ _ _ _ i4 (lists_bs i4)).1
    | 4, hi =>
      obtain rfl := Option.some.inj hi
      exact (p5 _ _ _ _ _ _ i5 (lists_bs i5)).1
    | 5, hi =>
      obtain rfl := Option.some.inj hi
      exact (p6 _ _ _ _ _ _ i6 (lists_bs i6)).1
    | 6, hi =>
      obtain rfl := Option.some.inj hi
      exact (p7 _ _ _ _ _ _ i7 (lists_bs i7)).1
    | 7, hi =>
      obtain rfl := Option.some.inj hi
      exact (p8 _ _ _ _ _ _ i8 (lists_bs i8)).1
    | i + 8, hi => cases hi
  · match i, hi with
    | 0, hi => exact (p1 (fun b o => H b = some o ∧ ∀ ps, o ≠ .tbl ps) none H _ _ _ i1 (lists_bs i1)).2 _ (Option.some.inj hi)
    | 1, hi => exact (p2 (fun b o => H b = some o ∧ ∀ ps, o ≠ .tbl ps) none H _ _ _ i2 (lists_bs i2)).2 _ (Option.some.inj hi)
    | 2, hi => exact (p3 (fun b o => H b = some o ∧ ∀ ps, o ≠ .tbl ps) none H _ _ _ i3 (lists_bs i3)).2 _ (Option.some.inj hi)
    | 3, hi => exact (p4 (fun b o => H b = some o ∧ ∀ ps, o ≠ .tbl ps) none H _ _ _ i4 (lists_bs i4)).2 _ (Option.some.inj hi)
    | 4, hi => exact (p5 (fun b o => H b = some o ∧ ∀ ps, o ≠ .tbl ps) none H _ _ _ i5 (lists_bs i5)).2 _ (Option.some.inj hi)
    | 5, hi => exact (p6 (fun b o => H b = some o ∧ ∀ ps, o ≠ .tbl ps) none H _ _ _ i6 (lists_bs i6)).2 _ (Option.some.inj hi)
    | 6, hi => exact (p7 (fun b o => H b = some o ∧ ∀ ps, o ≠ .tbl ps) none H _ _ _ i7 (lists_bs i7)).2 _ (Option.some.inj hi)
    | 7, hi => exact (p8 (fun b o => H b = some o ∧ ∀ ps, o ≠ .tbl ps) none H _ _ _ i8 (lists_bs i8)).2 _ (Option.some.inj hi)
    | i + 8, hi => cases hi
theorem re_call8 {α1 α2 α3 α4 α5 α6 α7 α8 R : Type} [Enc α1] [Enc α2] [Enc α3] [Enc α4] [Enc α5] [Enc α6] [Enc α7] [Enc α8] [Enc R] {f : α1 → α2 → α3 → α4 → α5 → α6 → α7 → α8 → M R} {E : XK} {t1 : TE} {m1 : M α1} {b1 : Bool} (h1 : RE K T t1 ρ b1 m1) {t2 : TE} {m2 : M α2} {b2 : Bool} (h2 : RE K T t2 ρ b2 m2) {t3 : TE} {m3 : M α3} {b3 : Bool} (h3 : RE K T t3 ρ b3 m3) {t4 : TE} {m4 : M α4} {b4 : Bool} (h4 : RE K T t4 ρ b4 m4) {t5 : TE} {m5 : M α5} {b5 : Bool} (h5 : RE K T t5 ρ b5 m5) {t6 : TE} {m6 : M α6} {b6 : Bool} (h6 : RE K T t6 ρ b6 m6) {t7 : TE} {m7 : M α7} {b7 : Bool} (h7 : RE K T t7 ρ b7 m7) {t8 : TE} {m8 : M α8} {b8 : Bool} (h8 : RE K T t8 ρ b8 m8) : RE K T (tCall (spW8 K T f) [] E (tCons t1 (tCons t2 (tCons t3 (tCons t4 (tCons t5 (tCons t6 (tCons t7 (tCons t8 tNil))))))))) ρ true (c8W m1 m2 m3 m4 m5 m6 m7 m8 fun a1 a2 a3 a4 a5 a6 a7 a8 => pureW (f a1 a2 a3 a4 a5 a6 a7 a8)) := fun Bs po φ σ H n st P p Q q =>
  h1 Bs po φ σ H n st _ p _ fun a1 n1 v1 H1 f1 p1 x1 i1 g1 =>
  h2 Bs po φ σ H1 n1 (st.af x1) _ p1 _ fun a2 n2 v2 H2 f2 p2 x2 i2 g2 =>
  h3 Bs po φ σ H2 n2 ((st.af x1).af x2) _ p2 _ fun a3 n3 v3 H3 f3 p3 x3 i3 g3 =>
  h4 Bs po φ σ H3 n3 (((st.af x1).af x2).af x3) _ p3 _ fun a4 n4 v4 H4 f4 p4 x4 i4 g4 =>
  h5 Bs po φ σ H4 n4 ((((st.af x1).af x2).af x3).af x4) _ p4 _ fun a5 n5 v5 H5 f5 p5 x5 i5 g5 =>
  h6 Bs po φ σ H5 n5 (((((st.af x1).af x2).af x3).af x4).af x5) _ p5 _ fun a6 n6 v6 H6 f6 p6 x6 i6 g6 =>
  h7 Bs po φ σ H6 n6 ((((((st.af x1).af x2).af x3).af x4).af x5).af x6) _ p6 _ fun a7 n7 v7 H7 f7 p7 x7 i7 g7 =>
  h8 Bs po φ σ H7 n7 (((((((st.af x1).af x2).af x3).af x4).af x5).af x6).af x7) _ p7 _ fun a8 n8 v8 H8 f8 p8 x8 i8 g8 =>
  ⟨_, _, _, _, _, _, _, _, _, _, _, _, _, _, _, _, _, _, _, _, _, _, _, _, rfl, ⟨(((((((i1.af g1.1 x2.fr).af g1.1 x3.fr).af g1.1 x4.fr).af g1.1 x5.fr).af g1.1 x6.fr).af g1.1 x7.fr).af g1.1 x8.fr), ((((((i2.af g2.1 x3.fr).af g2.1 x4.fr).af g2.1 x5.fr).af g2.1 x6.fr).af g2.1 x7.fr).af g2.1 x8.fr), (((((i3.af g3.1 x4.fr).af g3.1 x5.fr).af g3.1 x6.fr).af g3.1 x7.fr).af g3.1 x8.fr), ((((i4.af g4.1 x5.fr).af g4.1 x6.fr).af g4.1 x7.fr).af g4.1 x8.fr), (((i5.af g5.1 x6.fr).af g5.1 x7.fr).af g5.1 x8.fr), ((i6.af g6.1 x7.fr).af g6.1 x8.fr), (i7.af g7.1 x8.fr), i8⟩, ((((((((st.af x1).af x2).af x3).af x4).af x5).af x6).af x7).af x8).tabs, _, p8, fun r c v' H' fp pr af im nd hf => q r n8 v' H' fp pr (Af.trans (Af.trans (Af.trans (Af.trans (Af.trans (Af.trans (Af.trans (Af.trans x1 x2) x3) x4) x5) x6) x7) x8) ⟨Fr.weak af.fr, af.tabs, fun a e z => keep_pot af z⟩) im (Fp.back (Af.trans (Af.trans (Af.trans (Af.trans (Af.trans (Af.trans (Af.trans x1 x2) x3) x4) x5) x6) x7) x8).fr ⟨fun b hb => ((((((((st.af x1).af x2).af x3).af x4).af x5).af x6).af x7).af x8).fresh_pot (hf b hb), fun _ => ⟨nd, hf⟩⟩)⟩
def spP8 (K : PySem.W.Frag) (T : List (Addr × Str)) {α1 α2 α3 α4 α5 α6 α7 α8 R : Type} [Enc α1] [Enc α2] [Enc α3] [Enc α4] [Enc α5] [Enc α6] [Enc α7] [Enc α8] [Enc R] (f : α1 → α2 → α3 → α4 → α5 → α6 → α7 → α8 → M R) : Sp := fun vs H Q _ => ∃ (q : Addr) (n : Nat) (a1 : α1) (a2 : α2) (a3 : α3) (a4 : α4) (a5 : α5) (a6 : α6) (a7 : α7) (a8 : α8) (v1 v2 v3 v4 v5 v6 v7 v8 : V) (f1 f2 f3 f4 f5 f6 f7 f8 : List Addr), vs = [.ref q, v1, v2, v3, v4, v5, v6, v7, v8] ∧ (Im K H v1 (enc a1) f1 ∧ Im K H v2 (enc a2) f2 ∧ Im K H v3 (enc a3) f3 ∧ Im K H v4 (enc a4) f4 ∧ Im K H v5 (enc a5) f5 ∧ Im K H v6 (enc a6) f6 ∧ Im K H v7 (enc a7) f7 ∧ Im K H v8 (enc a8) f8 ∧ (∀ b ∈ f1, b ≠ q) ∧ (∀ b ∈ f2, b ≠ q) ∧ (∀ b ∈ f3, b ≠ q) ∧ (∀ b ∈ f4, b ≠ q) ∧ (∀ b ∈ f5, b ≠ q) ∧ (∀ b ∈ f6, b ≠ q) ∧ (∀ b ∈ f7, b ≠ q) ∧ (∀ b ∈ f8, b ≠ q)) ∧ Tabs T H ∧ Pot H q n ∧ ∃ P0 : R → Nat → Prop, f a1 a2 a3 a4 a5 a6 a7 a8 n P0 ∧ ∀ r n' v' H' fp, P0 r n' → Af K T (some q) H n H' n' → Im K H' v' (enc r) fp → fp.Nodup → (∀ b ∈ fp, b ≠ q ∧ Fsh H b) → Q v' H'
theorem spP8_len {α1 α2 α3 α4 α5 α6 α7 α8 R : Type} [Enc α1] [Enc α2] [Enc α3] [Enc α4] [Enc α5] [Enc α6] [Enc α7] [Enc α8] [Enc R] {f : α1 → α2 → α3 → α4 → α5 → α6 → α7 → α8 → M R} {vs : List V} {H : Hp} {Q : VK} {E : XK} (h : spP8 K T f vs H Q E) : vs.length = 9 := by
  obtain ⟨q, n, a1, a2, a3, a4, a5, a6, a7, a8, v1, v2, v3, v4, v5, v6, v7, v8, f1, f2, f3, f4, f5, f6, f7, f8, rfl, _⟩ := h
  rfl
theorem p8_run {α1 α2 α3 α4 α5 α6 α7 α8 R : Type} [Enc α1] [Enc α2] [Enc α3] [Enc α4] [Enc α5] [Enc α6] [Enc α7] [Enc α8] [Enc R] {B S : Type} {N : List Str} {s1 : α1 → Sl} (p1 : PSl K s1) {s2 : α2 → Sl} (p2 : PSl K s2) {s3 : α3 → Sl} (p3 : PSl K s3) {s4 : α4 → Sl} (p4 : PSl K s4) {s5 : α5 → Sl} (p5 : PSl K s5) {s6 : α6 → Sl} (p6 : PSl K s6) {s7 : α7 → Sl} (p7 : PSl K s7) {s8 : α8 → Sl} (p8 : PSl K s8) {ρ : α1 → α2 → α3 → α4 → α5 → α6 → α7 → α8 → List Sl} (e : ∀ a1 a2 a3 a4 a5 a6 a7 a8, [Sl.pot, s1 a1, s2 a2, s3 a3, s4 a4, s5 a5, s6 a6, s7 a7, s8 a8] ++ List.replicate (N.length - 9) Sl.any = ρ a1 a2 a3 a4 a5 a6 a7 a8) {t : TS} {mB : α1 → α2 → α3 → α4 → α5 → α6 → α7 → α8 → M (Ctl R B S)} {ρn : S → List Sl} {ρb : B → List Sl} {C : Option Addr → Prop} (hC : ∀ q, C (some q)) (hr : ∀ a1 a2 a3 a4 a5 a6 a7 a8, RB K T C t (ρ a1 a2 a3 a4 a5 a6 a7 a8) (mB a1 a2 a3 a4 a5 a6 a7 a8) ρn ρb)
    {vs : List V} {H : Hp} {Q : VK} {E : XK} (h : spP8 K T (fun a1 a2 a3 a4 a5 a6 a7 a8 => outW (mB a1 a2 a3 a4 a5 a6 a7 a8)) vs H Q E) : t { nx := fun _ H' => Q .non H', rt := Q } (L2.start N vs) H := by
  obtain ⟨q, n, a1, a2, a3, a4, a5, a6, a7, a8, v1, v2, v3, v4, v5, v6, v7, v8, f1, f2, f3, f4, f5, f6, f7, f8, rfl, ⟨i1, i2, i3, i4, i5, i6, i7, i8, j1, j2, j3, j4, j5, j6, j7, j8⟩, tb, pp, P0, h, hq⟩ := h
  refine end_pot (hr a1 a2 a3 a4 a5 a6 a7 a8) (hC q) rfl ⟨_, st_start (ss := [Sl.pot, s1 a1, s2 a2, s3 a3, s4 a4, s5 a5, s6 a6, s7 a7, s8 a8]) (fps := [[], f1, f2, f3, f4, f5, f6, f7, f8]) tb (fun b o z => ⟨z.1, z.2.1, fun w => z.2.2 (Option.some.inj w).symm⟩) (fun a z => by rw [← Option.some.inj z]; exact pp) rfl (fun i s hi => ?_) (fun i d hi => ?_) (e a1 a2 a3 a4 a5 a6 a7 a8)⟩ h hq
  · match i, hi with
    | 0, hi =>
      obtain rfl := Option.some.inj hi
      exact ⟨q, rfl, rfl⟩
    | 1, hi =>
      obtain rfl := Option.some.inj hi
      exact (p1 _ _ _ _ _ _ i1 (lists_bp i1 j1)).1
    | 2, hi =>
      obtain rfl := Option.some.inj hi
      exact (p2 _ _ _ _ _ _ i2 (lists_bp i2 j2)).1
    | 3, hi =>
      obtain rfl := Option.some.inj hi
      exact (p3 _ _ _ _ _ _ i3 (lists_bp i3 j3)).1
    | 4, hi =>
      obtain rfl := Option.some.inj hi
      exact (p4 _ _ _ _ _ _ i4 (lists_bp i4 j4)).1
    | 5, hi =>
      obtain rfl := Option.some.inj hi
      exact (p5 _ _ _ _ _ _ i5 (lists_bp i5 j5)).1
    | 6, hi =>
      obtain rfl := Option.some.inj hi
      exact (p6 _ _ _ _ _ _ i6 (lists_bp i6 j6)).1
    | 7, hi =>
      obtain rfl := Option.some.inj hi
      exact (p7 _ _ _ _ _ _ i7 (lists_bp i7 j7)).1
    | 8, hi =>
      obtain rfl := Option.some.inj hi
      exact (p8 _ _ _ _ _ _ i8 (lists_bp i8 j8)).1
    | i + 9, hi => cases hi
  · match i, hi with
    | 0, hi => cases hi
    | 1, hi => exact (p1 (fun b o => H b = some o ∧ (∀ ps, o ≠ .tbl ps) ∧ b ≠ q) (some q) H _ _ _ i1 (lists_bp i1 j1)).2 _ (Option.some.inj hi)
    | 2, hi => exact (p2 (fun b o => H b = some o ∧ (∀ ps, o ≠ .tbl ps) ∧ b ≠ q) (some q) H _ _ _ i2 (lists_bp i2 j2)).2 _ (Option.some.inj hi)
    | 3, hi => exact (p3 (fun b o => H b = some o ∧ (∀ ps, o ≠ .tbl ps) ∧ b ≠ q) (some q) H _ _ _ i3 (lists_bp i3 j3)).2 _ (Option.some.inj hi)
    | 4, hi => exact (p4 (fun b o => H b = some o ∧ (∀ ps, o ≠ .tbl ps) ∧ b ≠ q) (some q) H _ _ _ i4 (lists_bp i4 j4)).2 _ (Option.some.inj hi)
    | 5, hi => exact (p5 (fun b o => H b = some o ∧ (∀ ps, o ≠ .tbl ps) ∧ b ≠ q) (some q) H _ _ _ i5 (lists_bp i5 j5)).2 _ (Option.some.inj hi)
    | 6, hi => exact (p6 (fun b o => H b = some o ∧ (∀ ps, o ≠ .tbl ps) ∧ b ≠ q) (some q) H _ _ _ i6 (lists_bp i6 j6)).2 _ (Option.some.inj hi)
    | 7, hi => exact (p7 (fun b o => H b = some o ∧ (∀ ps, o ≠ .tbl ps) ∧ b ≠ q) (some q) H _ _ _ i7 (lists_bp i7 j7)).2 _ (Option.some.inj hi)
    | 8, hi => exact (p8 (fun b o => H b = some o ∧ (∀ ps, o ≠ .tbl ps) ∧ b ≠ q) (some q) H _ _ _ i8 (lists_bp i8 j8)).2 _ (Option.some.inj hi)
    | i + 9, hi => cases hi
theorem re_callp8 {α1 α2 α3 α4 α5 α6 α7 α8 R : Type} [Enc α1] [Enc α2] [Enc α3] [Enc α4] [Enc α5] [Enc α6] [Enc α7] [Enc α8] [Enc R] {f : α1 → α2 → α3 → α4 → α5 → α6 → α7 → α8 → M R} {E : XK} {ip : Nat} (hpot : ρ[ip]? = some .pot) {t1 : TE} {m1 : M α1} {b1 : Bool} (h1 : RE K T t1 ρ b1 m1) {t2 : TE} {m2 : M α2} {b2 : Bool} (h2 : RE K T t2 ρ b2 m2) {t3 : TE} {m3 : M α3} {b3 : Bool} (h3 : RE K T t3 ρ b3 m3) {t4 : TE} {m4 : M α4} {b4 : Bool} (h4 : RE K T t4 ρ b4 m4) {t5 : TE} {m5 : M α5} {b5 : Bool} (h5 : RE K T t5 ρ b5 m5) {t6 : TE} {m6 : M α6} {b6 : Bool} (h6 : RE K T t6 ρ b6 m6) {t7 : TE} {m7 : M α7} {b7 : Bool} (h7 : RE K T t7 ρ b7 m7) {t8 : TE} {m8 : M α8} {b8 : Bool} (h8 : RE K T t8 ρ b8 m8) : RE K T (tCall (spP8 K T f) [] E (tCons (tVar ip) (tCons t1 (tCons t2 (tCons t3 (tCons t4 (tCons t5 (tCons t6 (tCons t7 (tCons t8 tNil)))))))))) ρ true (c8W m1 m2 m3 m4 m5 m6 m7 m8 f) := fun Bs po φ σ H n st P p Q q =>
  let ⟨u, e1, e2⟩ := st.sl ip _ hpot
  ⟨_, e2,
  h1 Bs po φ σ H n st _ p _ fun a1 n1 v1 H1 f1 p1 x1 i1 g1 =>
  h2 Bs po φ σ H1 n1 (st.af x1) _ p1 _ fun a2 n2 v2 H2 f2 p2 x2 i2 g2 =>
  h3 Bs po φ σ H2 n2 ((st.af x1).af x2) _ p2 _ fun a3 n3 v3 H3 f3 p3 x3 i3 g3 =>
  h4 Bs po φ σ H3 n3 (((st.af x1).af x2).af x3) _ p3 _ fun a4 n4 v4 H4 f4 p4 x4 i4 g4 =>
  h5 Bs po φ σ H4 n4 ((((st.af x1).af x2).af x3).af x4) _ p4 _ fun a5 n5 v5 H5 f5 p5 x5 i5 g5 =>
  h6 Bs po φ σ H5 n5 (((((st.af x1).af x2).af x3).af x4).af x5) _ p5 _ fun a6 n6 v6 H6 f6 p6 x6 i6 g6 =>
  h7 Bs po φ σ H6 n6 ((((((st.af x1).af x2).af x3).af x4).af x5).af x6) _ p6 _ fun a7 n7 v7 H7 f7 p7 x7 i7 g7 =>
  h8 Bs po φ σ H7 n7 (((((((st.af x1).af x2).af x3).af x4).af x5).af x6).af x7) _ p7 _ fun a8 n8 v8 H8 f8 p8 x8 i8 g8 =>
  ⟨u, n8, _, _, _, _, _, _, _, _, _, _, _, _, _, _, _, _, _, _, _, _, _, _, _, _, rfl, ⟨(((((((i1.af g1.1 x2.fr).af g1.1 x3.fr).af g1.1 x4.fr).af g1.1 x5.fr).af g1.1 x6.fr).af g1.1 x7.fr).af g1.1 x8.fr), ((((((i2.af g2.1 x3.fr).af g2.1 x4.fr).af g2.1 x5.fr).af g2.1 x6.fr).af g2.1 x7.fr).af g2.1 x8.fr), (((((i3.af g3.1 x4.fr).af g3.1 x5.fr).af g3.1 x6.fr).af g3.1 x7.fr).af g3.1 x8.fr), ((((i4.af g4.1 x5.fr).af g4.1 x6.fr).af g4.1 x7.fr).af g4.1 x8.fr), (((i5.af g5.1 x6.fr).af g5.1 x7.fr).af g5.1 x8.fr), ((i6.af g6.1 x7.fr).af g6.1 x8.fr), (i7.af g7.1 x8.fr), i8, fun b hb z => g1.1 b hb (by rw [z]; exact e1), fun b hb z => g2.1 b hb (by rw [z]; exact e1), fun b hb z => g3.1 b hb (by rw [z]; exact e1), fun b hb z => g4.1 b hb (by rw [z]; exact e1), fun b hb z => g5.1 b hb (by rw [z]; exact e1), fun b hb z => g6.1 b hb (by rw [z]; exact e1), fun b hb z => g7.1 b hb (by rw [z]; exact e1), fun b hb z => g8.1 b hb (by rw [z]; exact e1)⟩, ((((((((st.af x1).af x2).af x3).af x4).af x5).af x6).af x7).af x8).tabs, ((((((((st.af x1).af x2).af x3).af x4).af x5).af x6).af x7).af x8).pot u e1, _, p8, fun r c v' H' fp pr af im nd hf => q r c v' H' fp pr (Af.trans (Af.trans (Af.trans (Af.trans (Af.trans (Af.trans (Af.trans (Af.trans x1 x2) x3) x4) x5) x6) x7) x8) (by rw [e1]; exact af)) im (Fp.back (Af.trans (Af.trans (Af.trans (Af.trans (Af.trans (Af.trans (Af.trans x1 x2) x3) x4) x5) x6) x7) x8).fr ⟨fun b hb => by rw [e1]; exact fun z => (hf b hb).1 (Option.some.inj z).symm, fun _ => ⟨nd, fun b hb => (hf b hb).2⟩⟩)⟩⟩
end
end Bf
namespace Bf
open PySem PySem.Spec PyProof.Rows L2 LamX NdefX
/-! ### who is between -/
def Bt (q d j e : Nat) : Prop := ∃ i, 1 ≤ i ∧ i < (cl q d j).length ∧ wf 0 ((cl q d j).take i) = e
def OnW (q d e j : Nat) : Prop := e.testBit j = true ∧ ∀ x y, x < q → e.testBit y = true → ar q j x ≤ ar q j y → x ≠ j → e.testBit x = d.testBit x
theorem tp_mem {q d j x : Nat} (hj : j < q) : x ∈ tp q d j (q - 1) ↔ x < q ∧ x ≠ j ∧ d.testBit x = true := by
  unfold tp
  rw [List.mem_filter, List.mem_map]
  constructor
  · rintro ⟨⟨i, hi, rfl⟩, hb⟩
    have hi := List.mem_range.mp hi
    refine ⟨Nat.mod_lt _ (by omega), fun e => ?_, hb⟩
    have h1 := ar_at (q := q) (i := 1 + i) j (by omega)
    rw [e, ar_self] at h1
    omega
  · rintro ⟨hx, hne, hb⟩
    obtain ⟨i, hi, e⟩ := at_of j hx
    have h0 : i ≠ 0 := fun z => hne (by rw [← e, z, Nat.add_zero, Nat.mod_eq_of_lt hj])
    exact ⟨⟨i - 1, List.mem_range.mpr (by omega), by rw [show 1 + (i - 1) = i by omega]; exact e⟩, hb⟩
theorem tp_sorted {q d j : Nat} (hj : j < q) : (tp q d j (q - 1)).Pairwise (fun a b => ar q j a < ar q j b) := by
  have h := rb_sorted q d j
  rw [rb_split hj] at h
  exact (List.pairwise_append.mp h).2.1
theorem cut_sorted {α : Type} {key : α → Int} {P : α → Bool} : ∀ {l : List α}, l.Pairwise (fun a b => key a < key b) → (∀ x y, x ∈ l → y ∈ l → key x < key y → P y = true → P x = true) → l.filter P = l.take (l.filter P).length
  | [], _, _ => rfl
  | a :: l, hs, hc => by
    obtain ⟨h1, h2⟩ := List.pairwise_cons.mp hs
    have ih := cut_sorted (P := P) h2 fun x y hx hy => hc x y (List.mem_cons_of_mem _ hx) (List.mem_cons_of_mem _ hy)
    cases e : P a with
    | true =>
      rw [List.filter_cons_of_pos e, List.length_cons, List.take_succ_cons, ← ih]
    | false =>
      have hn : l.filter P = [] := List.filter_eq_nil_iff.mpr fun y hy z => by
        have := hc a y List.mem_cons_self (List.mem_cons_of_mem _ hy) (h1 y hy) z
        rw [e] at this
        cases this
      rw [List.filter_cons_of_neg (by rw [e]; decide), hn]
      rfl
theorem take_nodup {q d j i : Nat} (hj : j < q) : (j :: (tp q d j (q - 1)).take i).Nodup := by
  refine List.nodup_cons.mpr ⟨fun h => ?_, ?_⟩
  · exact ((tp_mem hj).mp (List.mem_of_mem_take h)).2.1 rfl
  · exact ((tp_sorted hj).imp fun {a b} h e => by rw [e] at h; omega).sublist (List.take_sublist _ _)
theorem cl_take {q d j i : Nat} (hi : i ≤ (tp q d j (q - 1)).length) : (cl q d j).take (i + 1) = j :: (tp q d j (q - 1)).take i := by
  unfold cl
  rw [List.cons_append, List.take_succ_cons, List.take_append_of_le_length hi]
theorem bt_iff {q d j e : Nat} (hj : j < q) (hd : d < 2 ^ q) (he : e < 2 ^ q) : Bt q d j e ↔ OnW q d e j ∧ e ≠ d := by
  constructor
  · rintro ⟨i, h1, h2, rfl⟩
    have hi : i - 1 ≤ (tp q d j (q - 1)).length := by
      unfold cl at h2
      rw [List.length_append, List.length_cons] at h2
      split at h2
      · have : i < (tp q d j (q - 1)).length + 1 + 0 := h2
        omega
      · have : i < (tp q d j (q - 1)).length + 1 + 1 := h2
        omega
    have ei : i = i - 1 + 1 := by omega
    have ec : (cl q d j).take i = j :: (tp q d j (q - 1)).take (i - 1) := by
      rw [ei]
      exact cl_take hi
    have hb : ∀ x, (wf 0 ((cl q d j).take i)).testBit x = decide (x ∈ j :: (tp q d j (q - 1)).take (i - 1)) := fun x => by
      rw [ec]
      exact wf_bit (take_nodup hj)
    refine ⟨⟨by rw [hb]; exact decide_eq_true List.mem_cons_self, fun x y hx hy hxy hne => ?_⟩, fun e => ?_⟩
    · rw [hb]
      rw [hb] at hy
      have hy := of_decide_eq_true hy
      cases b : d.testBit x with
      | false =>
        refine decide_eq_false fun h => ?_
        rcases List.mem_cons.mp h with h | h
        · exact hne h
        · have := ((tp_mem hj).mp (List.mem_of_mem_take h)).2.2
          rw [b] at this
          cases this
      | true =>
        refine decide_eq_true (List.mem_cons_of_mem _ ?_)
        have hmx := (tp_mem hj).mpr ⟨hx, hne, b⟩
        have hyy : y ∈ (tp q d j (q - 1)).take (i - 1) := by
          rcases List.mem_cons.mp hy with h | h
          · exfalso
            rw [h, ar_self] at hxy
            have h0 := ar_nn (q := q) (j := j) (x := x) (by omega)
            exact hne (ar_inj (j := j) hx hj (by rw [ar_self]; omega))
          · exact h
        have hs := tp_sorted (d := d) hj
        rw [← List.take_append_drop (i - 1) (tp q d j (q - 1))] at hmx hs
        rcases List.mem_append.mp hmx with h | h
        · exact h
        · have := (List.pairwise_append.mp hs).2.2 y hyy x h
          omega
    · by_cases b : d.testBit j = true
      · have hlen : (cl q d j).length = (tp q d j (q - 1)).length + 1 := by
          unfold cl
          rw [List.length_append, List.length_cons, if_pos b]
          rfl
        have hlt : i - 1 < (tp q d j (q - 1)).length := by omega
        have hm : (tp q d j (q - 1))[i - 1] ∈ tp q d j (q - 1) := List.getElem_mem hlt
        obtain ⟨m1, m2, m3⟩ := (tp_mem hj).mp hm
        have hbx := hb (tp q d j (q - 1))[i - 1]
        rw [e, m3] at hbx
        have hin := of_decide_eq_true hbx.symm
        rcases List.mem_cons.mp hin with h | h
        · exact m2 h
        · obtain ⟨k, hk, ek⟩ := List.mem_iff_getElem.mp h
          rw [List.length_take] at hk
          rw [List.getElem_take] at ek
          have hs := List.pairwise_iff_getElem.mp (tp_sorted (d := d) hj) k (i - 1) (by omega) hlt (by omega)
          rw [ek] at hs
          omega
      · have := hb j
        rw [e] at this
        rw [decide_eq_true List.mem_cons_self] at this
        exact b this
  · rintro ⟨⟨hj1, hc⟩, hne⟩
    have hcut := cut_sorted (P := fun x => e.testBit x) (tp_sorted (d := d) hj) fun x y hx hy hk hP => by
      obtain ⟨x1, x2, x3⟩ := (tp_mem hj).mp hx
      have := hc x y x1 hP (by omega) x2
      rw [this]
      exact x3
    have hle : ((tp q d j (q - 1)).filter fun x => e.testBit x).length ≤ (tp q d j (q - 1)).length := List.length_filter_le _ _
    generalize hn : ((tp q d j (q - 1)).filter fun x => e.testBit x).length = n at hcut hle
    have hbits : wf 0 (j :: (tp q d j (q - 1)).take n) = e := by
      refine Nat.eq_of_testBit_eq fun x => ?_
      rw [wf_bit (take_nodup hj), ← hcut]
      cases b : e.testBit x with
      | true =>
        refine decide_eq_true ?_
        by_cases ex : x = j
        · rw [ex]
          exact List.mem_cons_self
        · have hx := lt_of_bit he b
          have := hc x x hx b (Int.le_refl _) ex
          exact List.mem_cons_of_mem _ (List.mem_filter.mpr ⟨(tp_mem hj).mpr ⟨hx, ex, by rw [← this]; exact b⟩, b⟩)
      | false =>
        refine decide_eq_false fun h => ?_
        rcases List.mem_cons.mp h with h | h
        · rw [h, hj1] at b
          cases b
        · have := (List.mem_filter.mp h).2
          rw [b] at this
          cases this
    refine ⟨n + 1, by omega, ?_, by rw [cl_take hle]; exact hbits⟩
    unfold cl
    rw [List.length_append, List.length_cons]
    by_cases b : d.testBit j = true
    · rw [if_pos b]
      show n + 1 < (tp q d j (q - 1)).length + 1 + 0
      refine Classical.byContradiction fun z => hne ?_
      have en : n = (tp q d j (q - 1)).length := by omega
      rw [en, List.take_length] at hbits
      rw [← hbits]
      have h2 := wf_cl (q := q) (d := d) (j := j) hj hd 0
      have ecl : cl q d j = j :: tp q d j (q - 1) := by
        unfold cl
        rw [if_pos b, List.append_nil]
      rw [ecl, Nat.zero_xor] at h2
      exact h2
    · rw [if_neg b]
      show n + 1 < (tp q d j (q - 1)).length + 1 + 1
      omega
end Bf
namespace Bf
open PySem PySem.Spec PyProof.Rows L2 LamX NdefX
/-! ### the tree through a hand -/
def trn (q e j : Nat) : Nat := (e >>> j) ||| ((e &&& (2 ^ j - 1)) <<< (q - j))
theorem trn_bit {q e j k : Nat} (hj : j < q) (he : e < 2 ^ q) : (trn q e j).testBit k = (decide (k < q) && e.testBit ((k + j) % q)) := by
  unfold trn
  rw [Nat.testBit_or, Nat.testBit_shiftRight, Nat.testBit_shiftLeft, Nat.testBit_and, Nat.testBit_two_pow_sub_one]
  have hbig : ∀ x, q ≤ x → e.testBit x = false := fun x hx => Nat.testBit_lt_two_pow (Nat.lt_of_lt_of_le he (Nat.pow_le_pow_right (by decide) hx))
  by_cases hk : k < q
  · rw [decide_eq_true hk, Bool.true_and]
    by_cases h1 : k + j < q
    · rw [Nat.mod_eq_of_lt h1, decide_eq_false (show ¬ k ≥ q - j by omega), Bool.false_and, Bool.or_false, Nat.add_comm]
    · have e1 : (k + j) % q = k - (q - j) := by
        rw [Nat.mod_eq_sub_mod (by omega), Nat.mod_eq_of_lt (by omega)]
        omega
      rw [e1, hbig (j + k) (by omega), Bool.false_or, decide_eq_true (show k ≥ q - j by omega), Bool.true_and, decide_eq_true (show k - (q - j) < j by omega), Bool.and_true]
  · rw [decide_eq_false hk, Bool.false_and, hbig (j + k) (by omega), Bool.false_or]
    by_cases h1 : k - (q - j) < j
    · omega
    · rw [decide_eq_false h1, Bool.and_false, Bool.and_false]
def lnF (n : Nat) : Nat := if n = 0 then 0 else n.log2 + 1
theorem ln_bit {n k : Nat} (h : n.testBit k = true) : k < lnF n := by
  have h0 : n ≠ 0 := fun e => by rw [e, Nat.zero_testBit] at h; cases h
  unfold lnF
  rw [if_neg h0]
  have := Nat.ge_two_pow_of_testBit h
  have := (Nat.le_log2 h0).mpr this
  omega
theorem ln_top {n : Nat} (h0 : n ≠ 0) : n.testBit (lnF n - 1) = true := by
  unfold lnF
  rw [if_neg h0, Nat.add_sub_cancel]
  exact Nat.testBit_log2 h0
def iwF (q d e j : Nat) : Bool := decide (trn q e j &&& 1 = 1) && decide ((trn q e j ^^^ trn q d j) &&& (2 ^ lnF (trn q e j) - 1) ≤ 1)
theorem le_one {n : Nat} : n ≤ 1 ↔ ∀ k, 1 ≤ k → n.testBit k = false := by
  constructor
  · intro h k hk
    refine Nat.testBit_lt_two_pow (Nat.lt_of_le_of_lt h ?_)
    exact Nat.lt_of_lt_of_le (by decide : 1 < 2 ^ 1) (Nat.pow_le_pow_right (by decide) hk)
  · intro h
    refine Classical.byContradiction fun z => ?_
    have hn : n ≠ 0 := by omega
    have h1 := Nat.testBit_log2 hn
    have h2 : 1 ≤ n.log2 := (Nat.le_log2 hn).mpr (by show 2 ^ 1 ≤ n; omega)
    rw [h _ h2] at h1
    cases h1
theorem and_one {n : Nat} : n &&& 1 = 1 ↔ n.testBit 0 = true := by
  rw [Nat.and_one_is_mod, Nat.testBit_zero]
  exact ⟨fun h => decide_eq_true h, fun h => of_decide_eq_true h⟩
theorem iw_iff {q d e j : Nat} (hj : j < q) (hd : d < 2 ^ q) (he : e < 2 ^ q) : iwF q d e j = true ↔ OnW q d e j := by
  have hq : 0 < q := by omega
  unfold iwF
  rw [Bool.and_eq_true, decide_eq_true_eq, decide_eq_true_eq, and_one, le_one]
  have b0 : (trn q e j).testBit 0 = e.testBit j := by
    rw [trn_bit hj he, decide_eq_true hq, Bool.true_and, Nat.zero_add, Nat.mod_eq_of_lt hj]
  rw [b0]
  have hat : ∀ k, k < q → ar q j ((k + j) % q) = (k : Int) := fun k hk => by
    rw [Nat.add_comm]
    exact ar_at j hk
  constructor
  · rintro ⟨h1, h2⟩
    refine ⟨h1, fun x y hx hy hxy hne => ?_⟩
    obtain ⟨k, hk, ek⟩ := at_of j hx
    have hyq := lt_of_bit he hy
    obtain ⟨l, hl, el⟩ := at_of j hyq
    rw [Nat.add_comm] at ek el
    have hkl : k ≤ l := by
      have a1 := hat k hk
      have a2 := hat l hl
      rw [ek] at a1
      rw [el] at a2
      omega
    have hk1 : 1 ≤ k := by
      refine Nat.pos_of_ne_zero fun z => hne ?_
      rw [← ek, z, Nat.zero_add, Nat.mod_eq_of_lt hj]
    have hb := h2 k hk1
    have hlen : k < lnF (trn q e j) := by
      have : (trn q e j).testBit l = true := by rw [trn_bit hj he, decide_eq_true hl, Bool.true_and, el]; exact hy
      have := ln_bit this
      omega
    rw [Nat.testBit_and, Nat.testBit_xor, Nat.testBit_two_pow_sub_one, decide_eq_true hlen, Bool.and_true, trn_bit hj he, trn_bit hj hd, decide_eq_true hk, Bool.true_and, Bool.true_and, ek] at hb
    cases h3 : e.testBit x <;> cases h4 : d.testBit x <;> rw [h3, h4] at hb <;> first | rfl | cases hb
  · rintro ⟨h1, h2⟩
    refine ⟨h1, fun k hk => ?_⟩
    rw [Nat.testBit_and, Nat.testBit_xor, Nat.testBit_two_pow_sub_one]
    by_cases hlen : k < lnF (trn q e j)
    · have hne : trn q e j ≠ 0 := fun z => by
        rw [z] at hlen
        exact absurd hlen (by show ¬ k < 0; omega)
      have ht := ln_top hne
      have htq : lnF (trn q e j) - 1 < q := by
        rw [trn_bit hj he] at ht
        exact of_decide_eq_true (Bool.and_eq_true_iff.mp ht).1
      rw [trn_bit hj he, decide_eq_true htq, Bool.true_and] at ht
      have hkq : k < q := by omega
      have hxy := h2 ((k + j) % q) ((lnF (trn q e j) - 1 + j) % q) (Nat.mod_lt _ hq) ht (by rw [hat k hkq, hat _ htq]; omega) (fun z => by
        have := hat k hkq
        rw [z, ar_self] at this
        omega)
      rw [trn_bit hj he, trn_bit hj hd, decide_eq_true hkq, Bool.true_and, Bool.true_and, hxy, Bool.xor_self, Bool.false_and]
    · rw [decide_eq_false hlen, Bool.and_false]
/-- the least bit -/
def fpF (n : Nat) : Nat := (((List.range (lnF n)).filter fun k => n.testBit k).head?).getD 0
theorem fp_is {n : Nat} (h0 : n ≠ 0) : n.testBit (fpF n) = true ∧ ∀ k, n.testBit k = true → fpF n ≤ k := by
  unfold fpF
  have hm : lnF n - 1 ∈ (List.range (lnF n)).filter fun k => n.testBit k := List.mem_filter.mpr ⟨List.mem_range.mpr (by have := ln_bit (ln_top h0); omega), ln_top h0⟩
  have hs : ((List.range (lnF n)).filter fun k => n.testBit k).Pairwise (· < ·) := List.Pairwise.filter _ List.pairwise_lt_range
  cases e : (List.range (lnF n)).filter fun k => n.testBit k with
  | nil => rw [e] at hm; exact absurd hm List.not_mem_nil
  | cons a l =>
    have ha : a ∈ (List.range (lnF n)).filter fun k => n.testBit k := by rw [e]; exact List.mem_cons_self
    refine ⟨(List.mem_filter.mp ha).2, fun k hk => ?_⟩
    have hk2 : k ∈ (List.range (lnF n)).filter fun k => n.testBit k := List.mem_filter.mpr ⟨List.mem_range.mpr (ln_bit hk), hk⟩
    rw [e] at hk2 hs
    show a ≤ k
    rcases List.mem_cons.mp hk2 with h | h
    · omega
    · have := (List.pairwise_cons.mp hs).1 k h
      omega
def otF (q d e : Nat) : Option Nat := if e ^^^ (d &&& e) ≠ 0 then some (lnF (e ^^^ (d &&& e)) - 1) else if e = 0 ∨ d ^^^ (d &&& e) = 0 then none
  else some ((lnF (d ^^^ (d &&& e)) - 1 + fpF (trn q e (lnF (d ^^^ (d &&& e)) - 1))) % q)
def thF (q d e : Nat) : Option Nat := match otF q d e with
  | none => none
  | some j => if iwF q d e j = true then some j else none
theorem bey_bit {d e x : Nat} : (e ^^^ (d &&& e)).testBit x = (e.testBit x && !d.testBit x) := by
  rw [Nat.testBit_xor, Nat.testBit_and]
  cases e.testBit x <;> cases d.testBit x <;> rfl
theorem lac_bit {d e x : Nat} : (d ^^^ (d &&& e)).testBit x = (d.testBit x && !e.testBit x) := by
  rw [Nat.testBit_xor, Nat.testBit_and]
  cases e.testBit x <;> cases d.testBit x <;> rfl
theorem ot_lt {q d e j : Nat} (hq : 0 < q) (he : e < 2 ^ q) (h : otF q d e = some j) : j < q ∧ e ≠ d := by
  unfold otF at h
  by_cases b : e ^^^ (d &&& e) ≠ 0
  · rw [if_pos b] at h
    have h := Option.some.inj h
    have ht := ln_top b
    rw [h, bey_bit] at ht
    obtain ⟨h1, h2⟩ := Bool.and_eq_true_iff.mp ht
    refine ⟨lt_of_bit he h1, fun z => ?_⟩
    rw [z] at h1
    rw [h1] at h2
    cases h2
  · rw [if_neg b] at h
    by_cases c : e = 0 ∨ d ^^^ (d &&& e) = 0
    · rw [if_pos c] at h
      cases h
    · rw [if_neg c] at h
      have h := Option.some.inj h
      refine ⟨by rw [← h]; exact Nat.mod_lt _ hq, fun z => c (.inr ?_)⟩
      rw [z, Nat.and_self, Nat.xor_self]
theorem ot_is {q d e j : Nat} (hj : j < q) (hd : d < 2 ^ q) (he : e < 2 ^ q) (ho : OnW q d e j) (hne : e ≠ d) : otF q d e = some j := by
  have hq : 0 < q := by omega
  obtain ⟨h1, h2⟩ := ho
  have sub : ∀ x, e.testBit x = true → x ≠ j → d.testBit x = true := fun x hx hn => by
    rw [← h2 x x (lt_of_bit he hx) hx (Int.le_refl _) hn]
    exact hx
  unfold otF
  by_cases b : e ^^^ (d &&& e) ≠ 0
  · rw [if_pos b]
    have ht := ln_top b
    rw [bey_bit] at ht
    obtain ⟨a1, a2⟩ := Bool.and_eq_true_iff.mp ht
    congr 1
    refine Classical.byContradiction fun z => ?_
    rw [sub _ a1 z] at a2
    cases a2
  · have b : e ^^^ (d &&& e) = 0 := Classical.byContradiction b
    rw [if_neg (fun z => z b)]
    have hjd : d.testBit j = true := by
      have : (e ^^^ (d &&& e)).testBit j = false := by rw [b, Nat.zero_testBit]
      rw [bey_bit, h1] at this
      cases h3 : d.testBit j with
      | true => rfl
      | false => rw [h3] at this; cases this
    have all : ∀ x, e.testBit x = true → d.testBit x = true := fun x hx => by
      by_cases z : x = j
      · rw [z]
        exact hjd
      · exact sub x hx z
    have hl : d ^^^ (d &&& e) ≠ 0 := fun z => hne (Nat.eq_of_testBit_eq fun x => by
      have hx : (d ^^^ (d &&& e)).testBit x = false := by rw [z, Nat.zero_testBit]
      rw [lac_bit] at hx
      cases h3 : e.testBit x with
      | true => exact (all x h3).symm
      | false =>
        rw [h3] at hx
        cases h4 : d.testBit x with
        | false => rfl
        | true => rw [h4] at hx; cases hx)
    have he0 : e ≠ 0 := fun z => by rw [z, Nat.zero_testBit] at h1; cases h1
    rw [if_neg (fun z => z.elim he0 hl)]
    have hg := ln_top hl
    generalize lnF (d ^^^ (d &&& e)) - 1 = g at hg
    rw [lac_bit] at hg
    obtain ⟨g1, g2⟩ := Bool.and_eq_true_iff.mp hg
    have hgq := lt_of_bit hd g1
    have hge : e.testBit g = false := by
      cases h3 : e.testBit g with
      | false => rfl
      | true => rw [h3] at g2; cases g2
    -- all of e lies nearer than g
    have near : ∀ y, e.testBit y = true → ar q j y < ar q j g := fun y hy => by
      refine Classical.byContradiction fun z => ?_
      have hgj : g ≠ j := fun w => by rw [w, h1] at hge; cases hge
      have := h2 g y hgq hy (by omega) hgj
      rw [hge, g1] at this
      cases this
    have hn0 : trn q e g ≠ 0 := fun z => by
      obtain ⟨k, hk, ek⟩ := at_of g hj
      have : (trn q e g).testBit k = true := by rw [trn_bit hgq he, decide_eq_true hk, Bool.true_and, Nat.add_comm, ek]; exact h1
      rw [z, Nat.zero_testBit] at this
      cases this
    obtain ⟨f1, f2⟩ := fp_is hn0
    have fq : fpF (trn q e g) < q := by
      rw [trn_bit hgq he] at f1
      exact of_decide_eq_true (Bool.and_eq_true_iff.mp f1).1
    rw [trn_bit hgq he, decide_eq_true fq, Bool.true_and] at f1
    obtain ⟨k, hk, ek⟩ := at_of g hj
    have hkj : (trn q e g).testBit k = true := by rw [trn_bit hgq he, decide_eq_true hk, Bool.true_and, Nat.add_comm, ek]; exact h1
    have hle := f2 k hkj
    generalize fpF (trn q e g) = m at f1 f2 fq hle
    congr 1
    rw [Nat.add_comm m g] at f1
    -- the first of e behind g is j
    refine Classical.byContradiction fun z => ?_
    have n1 := near _ f1
    have hmk : m < k := by
      refine Nat.lt_of_le_of_ne hle fun w => z ?_
      rw [w]
      exact ek
    have a1 := ar_at (q := q) (i := k) g hk
    rw [ek] at a1
    have a2 := ar_at (q := q) (i := m) g fq
    -- arcs from j
    have e1 : ar q j g = (q : Int) - k ∨ k = 0 := by
      by_cases k0 : k = 0
      · exact .inr k0
      · refine .inl ?_
        have : ar q ((g + k) % q) ((g + k + (q - k)) % q) = ((q - k : Nat) : Int) := by
          have := ar_at (q := q) (i := q - k) ((g + k) % q) (by omega)
          rw [Nat.mod_add_mod] at this
          exact this
        rw [ek, show g + k + (q - k) = g + q by omega, Nat.add_mod_right, Nat.mod_eq_of_lt hgq] at this
        omega
    have e2 : ar q j ((g + m) % q) = (q : Int) - k + m := by
      have hkm : k - m ≤ q := by omega
      have : ar q ((g + k) % q) ((g + k + (q - (k - m))) % q) = ((q - (k - m) : Nat) : Int) := by
        have := ar_at (q := q) (i := q - (k - m)) ((g + k) % q) (by omega)
        rw [Nat.mod_add_mod] at this
        exact this
      rw [ek, show g + k + (q - (k - m)) = g + m + q by omega, Nat.add_mod_right] at this
      rw [this]
      omega
    rcases e1 with e1 | e1
    · rw [e2, e1] at n1
      omega
    · omega
theorem th_iff {q d e j : Nat} (hq : 0 < q) (hd : d < 2 ^ q) (he : e < 2 ^ q) : thF q d e = some j ↔ j < q ∧ Bt q d j e := by
  unfold thF
  constructor
  · intro h
    cases z : otF q d e with
    | none => rw [z] at h; cases h
    | some k =>
      rw [z] at h
      obtain ⟨hk, hne⟩ := ot_lt hq he z
      have h : (if iwF q d e k = true then some k else none) = some j := h
      by_cases c : iwF q d e k = true
      · rw [if_pos c] at h
        have h := Option.some.inj h
        subst h
        exact ⟨hk, (bt_iff hk hd he).mpr ⟨(iw_iff hk hd he).mp c, hne⟩⟩
      · rw [if_neg c] at h
        cases h
  · rintro ⟨hj, hb⟩
    obtain ⟨ho, hne⟩ := (bt_iff hj hd he).mp hb
    rw [ot_is hj hd he ho hne]
    show (if iwF q d e j = true then some j else none) = some j
    rw [if_pos ((iw_iff hj hd he).mpr ho)]
end Bf
namespace Bf
open PySem PySem.Spec PyProof.Rows L2 LamX NdefX
theorem op_andN {X : Cx} : OpR X (binaryOp .BitAnd) (fun x y H Q => ∃ n m : Nat, x = .int (n : Int) ∧ y = .int (m : Int) ∧ Q (.int ((n &&& m : Nat) : Int)) H) := by
  intro pins s σ H x y v u Q I rx ry h
  obtain ⟨n, m, rfl, rfl, q⟩ := h
  refine op_and pins s σ H _ _ v u Q I rx ry ⟨(n : Int), (m : Int), rfl, rfl, ?_⟩
  show Q (.int (Builtin.bitAnd (n : Int) (m : Int))) H
  unfold Builtin.bitAnd
  rw [decide_eq_true (Int.natCast_nonneg n), decide_eq_true (Int.natCast_nonneg m)]
  exact q
theorem op_shlN {X : Cx} : OpR X (binaryOp .LShift) (fun x y H Q => ∃ n k : Nat, x = .int (n : Int) ∧ y = .int (k : Int) ∧ n < 2 ^ 64 ∧ k ≤ 1000000 ∧ Q (.int ((n <<< k : Nat) : Int)) H) := by
  intro pins s σ H x y v u Q I rx ry h
  obtain ⟨n, k, rfl, rfl, hn, hk, q⟩ := h
  refine op_shl pins s σ H _ _ v u Q I rx ry ⟨(n : Int), (k : Int), rfl, rfl, ⟨by omega, by omega, by simpa using hn⟩, ?_⟩
  rw [Nat.shiftLeft_eq] at q
  show Q (.int ((n : Int) * 2 ^ (k : Int).toNat)) H
  rw [Int.toNat_natCast]
  have e : ((n * 2 ^ k : Nat) : Int) = (n : Int) * 2 ^ k := by rw [Int.natCast_mul, Int.natCast_pow]; rfl
  rw [e] at q
  exact q
theorem low_eq {n : Nat} (h0 : n ≠ 0) : n - (n &&& (n - 1)) = 2 ^ fpF n := by
  obtain ⟨h1, h2⟩ := fp_is h0
  generalize fpF n = k at h1 h2
  -- n = 2 ^ (k + 1) * a + 2 ^ k
  have hb : n % 2 ^ (k + 1) = 2 ^ k := by
    refine Nat.eq_of_testBit_eq fun x => ?_
    rw [Nat.testBit_mod_two_pow, Nat.testBit_two_pow]
    by_cases hx : k = x
    · subst hx
      rw [decide_eq_true (Nat.lt_succ_self k), h1, decide_eq_true rfl]
      rfl
    · rw [decide_eq_false hx]
      by_cases hl : x < k + 1
      · rw [decide_eq_true hl, Bool.true_and]
        cases b : n.testBit x with
        | false => rfl
        | true => have := h2 x b; omega
      · rw [decide_eq_false hl, Bool.false_and]
  have hn : n = 2 ^ (k + 1) * (n / 2 ^ (k + 1)) + 2 ^ k := by
    have := Nat.div_add_mod n (2 ^ (k + 1))
    rw [hb] at this
    exact this.symm
  generalize n / 2 ^ (k + 1) = a at hn
  have hp : 0 < 2 ^ k := Nat.two_pow_pos k
  have hlt : 2 ^ k < 2 ^ (k + 1) := Nat.pow_lt_pow_right (by decide) (by omega)
  have hn1 : n - 1 = 2 ^ (k + 1) * a + (2 ^ k - 1) := by omega
  have hand : n &&& (n - 1) = 2 ^ (k + 1) * a := by
    refine Nat.eq_of_testBit_eq fun x => ?_
    rw [Nat.testBit_and, hn1, hn, Nat.testBit_two_pow_mul_add _ hlt, Nat.testBit_two_pow_mul_add _ (by omega), Nat.testBit_two_pow_mul, Nat.testBit_two_pow, Nat.testBit_two_pow_sub_one]
    by_cases hx : x < k + 1
    · rw [if_pos hx, if_pos hx, decide_eq_false (show ¬ x ≥ k + 1 by omega), Bool.false_and]
      by_cases hk : k = x
      · rw [decide_eq_false (show ¬ x < k by omega), Bool.and_false]
      · rw [decide_eq_false hk, Bool.false_and]
    · rw [if_neg hx, if_neg hx, decide_eq_true (show x ≥ k + 1 by omega), Bool.true_and, Bool.and_self]
  omega
theorem bits_nat (n : Nat) : Builtin.Int.intBits (n : Int) = lnF n := by
  unfold Builtin.Int.intBits lnF
  by_cases e : n = 0
  · subst e
    rfl
  · rw [if_neg e]
    simp [e]
theorem ln_pow (k : Nat) : lnF (2 ^ k) = k + 1 := by
  unfold lnF
  rw [if_neg (Nat.ne_of_gt (Nat.two_pow_pos k)), Nat.log2_two_pow]
theorem and_neg {n : Nat} (h0 : n ≠ 0) : Builtin.bitAnd (n : Int) (-(n : Int)) = ((2 ^ fpF n : Nat) : Int) := by
  unfold Builtin.bitAnd
  rw [decide_eq_true (Int.natCast_nonneg n), decide_eq_false (show ¬ (0 : Int) ≤ -(n : Int) by omega)]
  show (n : Int) - (((n : Int).toNat &&& (Builtin.bitNot (-(n : Int))).toNat : Nat) : Int) = _
  have e : (Builtin.bitNot (-(n : Int))).toNat = n - 1 := by
    unfold Builtin.bitNot
    omega
  rw [e, Int.toNat_natCast, ← low_eq h0]
  have := Nat.and_le_left (n := n) (m := n - 1)
  omega
end Bf
namespace Bf
open PySem PySem.Spec PyProof.Rows L2 LamX NdefX
theorem iop_fdivNN {X : Cx} : OpR X (inplaceOp .FloorDiv) (fun x y H Q => ∃ n m : Nat, x = .int (n : Int) ∧ y = .int (m : Int) ∧ 0 < m ∧ m < 1073741824 ∧ Q (.int ((n / m : Nat) : Int)) H) := by
  intro pins s σ H x y v u Q I rx ry h
  obtain ⟨n, m, rfl, rfl, hm, hm2, q⟩ := h
  refine iop_fdiv pins s σ H _ _ v u Q I rx ry ⟨(n : Int), (m : Int), rfl, rfl, ⟨by omega, by omega⟩, ?_⟩
  rw [Int.natCast_ediv] at q
  exact q
theorem iop_subN {X : Cx} : OpR X (inplaceOp .Sub) (fun x y H Q => ∃ n m : Nat, x = .int (n : Int) ∧ y = .int (m : Int) ∧ m ≤ n ∧ Q (.int ((n - m : Nat) : Int)) H) := by
  intro pins s σ H x y v u Q I rx ry h
  obtain ⟨n, m, rfl, rfl, hm, q⟩ := h
  refine iop_sub pins s σ H _ _ v u Q I rx ry ⟨(n : Int), (m : Int), rfl, rfl, ?_⟩
  rw [Int.natCast_sub hm] at q
  exact q
theorem ps_dead {X : Cx} {st : Stmt} : PS X st (fun _ _ _ => False) := ⟨fun _ _ _ _ _ _ h => h.elim⟩
/-- a def that is called -/
structure CalF (P : Program) (w : World) (K : PySem.W.Frag) (mg : Str → Option Value) (base : Heap) (k : Nat) (x : Str) (f : Addr) (fd : FuncData) (ps : List Str) (sp : Sp) : Prop where
  G : FnOk P w K mg base CX0 k f fd ps sp
  kp : PySem.W.keepIn K (.ref f) = true
  b : Binds K fd ps []
  g : mg x = some (.ref f)
structure CalG (P : Program) (w : World) (K : PySem.W.Frag) (mg : Str → Option Value) (base : Heap) (k : Nat) (x : Str) (f : Addr) (fd : FuncData) (ps : List Str) (sp : Sp) : Prop where
  G : FnG P w K mg base k f fd ps sp
  kp : PySem.W.keepIn K (.ref f) = true
  b : Binds K fd ps []
  g : mg x = some (.ref f)
/-- the built-ins are what they are -/
structure Bls (mg : Str → Option Value) : Prop where
  len : mg "len" = none
  tuple : mg "tuple" = none
  list : mg "list" = none
  range : mg "range" = none
  min : mg "min" = none
  max : mg "max" = none
  abs : mg "abs" = none
  int : mg "int" = none
  all : mg "all" = none
  any : mg "any" = none
  zip : mg "zip" = none
  enumerate : mg "enumerate" = none
  reversed : mg "reversed" = none
  repr : mg "repr" = none
  sorted : mg "sorted" = none
  sum : mg "sum" = none
  set : mg "set" = none
theorem FnG.imp {P : Program} {w : World} {K : PySem.W.Frag} {mg : Str → Option Value} {base : Heap} {k : Nat} {f : Addr} {fd : FuncData} {ps : List Str} {sp sp' : Sp} (F : FnG P w K mg base k f fd ps sp) (h : ∀ vs H Q E, sp' vs H Q E → sp vs H Q E) : FnG P w K mg base k f fd ps sp' :=
  ⟨fun vs H Q E q => F.len vs H Q E (h _ _ _ _ q), fun A outer s H args us vs Q E gd hr he hb hv hs => F.go A outer s H args us vs Q E gd hr he hb hv (h _ _ _ _ hs)⟩
def rLenOf (K : PySem.W.Frag) : List V → Hp → VK → Prop := fun xs H Q => ∃ p ys, xs = [.ref p] ∧ (SqL K H p ys ∨ SqT K H p ys) ∧ Q (.int ys.length) H
theorem fnd_nil {b : Addr} {A : Prop} : b ∈ ([] : List Addr) → A := fun h => absurd h List.not_mem_nil
theorem af_keeps {K : PySem.W.Frag} {T : List (Addr × Str)} {H H' : Hp} {q : Addr} {n n' : Nat} (pp : Pot H q n) (kk : Keeps q H H') (p' : Pot H' q n') : Af K T (some q) H n H' n' := by
  obtain ⟨l, hl⟩ := pot_lst pp
  exact ⟨Fr.keeps hl kk, fun tb => tabs_keeps pp tb kk, fun a e _ => by rw [← Option.some.inj e]; exact p'⟩
def takeW (size : Nat) : M Nat := fun n P => (0 < size ∧ size < 2305843009213693952 ∧ n < 100000) ∧ ∀ r, r < size → P r (n + 1)
def ofW {α : Type} (xs : Lst α) : M α := fun n P => (0 < xs.l.length ∧ xs.l.length < 1073741824 ∧ n < 100000) ∧ ∀ x, x ∈ xs.l → P x (n + 1)
theorem ima_mem {α : Type} [Enc α] [Pu α] {K : PySem.W.Frag} {H : Hp} : ∀ {xs : List α} {vs : List V} {fp : List Addr} {v : V}, ImA K H vs (xs.map enc) fp → v ∈ vs → ∃ x ∈ xs, Im K H v (enc x) []
  | [], _, _, _, h, m => by cases h; cases m
  | x :: xs, _, _, v, h, m => by
    cases h with
    | cons a b q =>
      rcases List.mem_cons.mp m with rfl | m
      · have := Pu.pu a
        subst this
        exact ⟨x, List.mem_cons_self, a⟩
      · obtain ⟨y, h1, h2⟩ := ima_mem b m
        exact ⟨y, List.mem_cons_of_mem _ h1, h2⟩
section
variable {K : PySem.W.Frag} {T : List (Addr × Str)} {ρ : List Sl}
variable {α β γ : Type} [Enc α] [Enc β] [Enc γ]
theorem ow_andN : OpW K (fun x y H Q => ∃ n m : Nat, x = .int (n : Int) ∧ y = .int (m : Int) ∧ Q (.int ((n &&& m : Nat) : Int)) H) (fun a b : Nat => retW (a &&& b)) := opw_n0 fun a b H Q q => ⟨a, b, rfl, rfl, q⟩
theorem ow_shlN : OpW K (fun x y H Q => ∃ n k : Nat, x = .int (n : Int) ∧ y = .int (k : Int) ∧ n < 2 ^ 64 ∧ k ≤ 1000000 ∧ Q (.int ((n <<< k : Nat) : Int)) H) (fun a b : Nat => reqW (a < 2 ^ 64 ∧ b ≤ 1000000) (retW (a <<< b))) := opw_n (C := fun a b => a < 2 ^ 64 ∧ b ≤ 1000000) fun a b H Q c q => ⟨a, b, rfl, rfl, c.1, c.2, q⟩
/-- sorted(list of numbers) -/
def sortN (xs : List Nat) : List Nat := xs.mergeSort (fun a b => decide (a ≤ b))
theorem sort_uniq {xs ys : List Nat} (hp : ys.Perm xs) (hs : ys.Pairwise (· ≤ ·)) : ys = sortN xs := by
  have h1 : (sortN xs).Perm xs := List.mergeSort_perm _ _
  have h2 : (sortN xs).Pairwise (· ≤ ·) := by
    have := List.pairwise_mergeSort (le := fun a b : Nat => decide (a ≤ b)) (fun a b c h1 h2 => by simp at *; omega) (fun a b => by simp; omega) xs
    exact this.imp fun h => of_decide_eq_true h
  exact (hp.trans h1.symm).eq_of_pairwise (fun a b _ _ h1 h2 => Nat.le_antisymm h1 h2) hs h2
theorem int_list {ns' : List Int} {ks : List Nat} (h : ns'.Perm (ks.map fun (n : Nat) => (n : Int))) : ∃ ls : List Nat, ns' = ls.map (fun (n : Nat) => (n : Int)) ∧ ls.Perm ks := by
  have h2 := h.map Int.toNat
  rw [List.map_map] at h2
  have e : List.map (Int.toNat ∘ fun (n : Nat) => (n : Int)) ks = ks := by
    rw [show (Int.toNat ∘ fun (n : Nat) => (n : Int)) = id from funext fun n => rfl, List.map_id]
  rw [e] at h2
  refine ⟨ns'.map Int.toNat, ?_, h2⟩
  rw [List.map_map]
  have : ∀ z ∈ ns', ((fun (n : Nat) => (n : Int)) ∘ Int.toNat) z = z := fun z hz => by
    obtain ⟨n, _, rfl⟩ := List.mem_map.mp (h.mem_iff.mp hz)
    rfl
  rw [List.map_congr_left this]
  exact (List.map_id' ns').symm
theorem nv_map (xs : List Nat) : nv xs = (xs.map fun (n : Nat) => (n : Int)).map V.int := by
  unfold nv
  rw [List.map_map]
  rfl
theorem uw_sorted : UnW K (fun x => rSortedI K [x]) (fun xs : Lst Nat => retW (⟨sortN xs.l⟩ : Lst Nat)) := fun xs H v fp i1 n P p Q q => by
  obtain ⟨a, rfl, hT⟩ := im_nvL i1
  refine ⟨a, xs.l.map fun (n : Nat) => (n : Int), rfl, by rw [← nv_map]; exact .inl (.inl hT), fun ns' t hp hs nt => ?_⟩
  obtain ⟨ls, rfl, hl⟩ := int_list hp
  have e : ls = sortN xs.l := sort_uniq hl (by rw [List.pairwise_map] at hs; exact hs.imp fun h => by omega)
  rw [← nv_map, e]
  exact q _ _ _ [t] p (same_new (Same.refl H) nt) (nv_imL upd_same) ⟨List.nodup_cons.mpr ⟨List.not_mem_nil, List.nodup_nil⟩, fun x hx => by rw [List.mem_singleton.mp hx]; exact nt⟩
theorem rg_nv : ∀ k : Nat, rgV 0 (k : Int) = nv (List.range k) := fun k => by
  unfold rgV nv
  rw [show ((k : Int) - 0).toNat = k by omega]
  refine List.map_congr_left fun i _ => ?_
  simp
theorem re_listRg {t : TE} {m : M Nat} {f : Bool} (h : RE K T t ρ f m) : RE K T (tLstRg (tRg1 t)) ρ true (bindW m fun k => reqW (k ≤ 16777216) (retW (⟨List.range k⟩ : Lst Nat))) := fun Bs po φ σ H n st P p Q q => h Bs po φ σ H n st _ p _ fun k n1 v H1 fp pa a1 i1 g1 => by
  cases i1
  have hk := pa.1
  refine ⟨(k : Int), rfl, RgOk.of_le (by omega) (by omega) (by omega) (by omega), fun t nt => ?_⟩
  rw [rg_nv]
  have s := same_new (Same.refl H1) nt (o := .lst (nv (List.range k)))
  exact q _ n1 _ _ [t] pa.2 (a1.trans (Af.same s)) (nv_imL upd_same) (Fp.back a1.fr (fp_new (st.af a1) ⟨List.nodup_cons.mpr ⟨List.not_mem_nil, List.nodup_nil⟩, fun x hx => by rw [List.mem_singleton.mp hx]; exact nt⟩))
theorem setL_ok (a : Addr) (v : V) (ys : List V) (j : Nat) (H : Hp) (Q : Hp → Prop) (e : H a = some (.lst ys)) (hj : j < ys.length) (q : Q (upd H a (.lst (ys.set j v)))) : L2.rSetL (.ref a) (.int (j : Int)) v H Q := ⟨a, ys, j, j, rfl, rfl, e, by unfold ixN; rw [if_pos (by omega), if_pos (by omega)]; rfl, q⟩
theorem re_revL [Pu α] {te : TE} {m : M (Lst α)} {f : Bool} (h : RE K T te ρ f m) : RE K T (tRevL K te) ρ true (mapW (fun xs : Lst α => (⟨xs.l.reverse⟩ : Lst α)) m) := fun Bs po φ σ H n st P p Q q =>
  h Bs po φ σ H n st _ p _ fun xs n1 v H1 fp pa a1 i1 g1 => by
    obtain ⟨a, vs, fq, rfl, hT, hA, e⟩ := im_lst i1
    have := ima_pu hA
    subst this
    refine ⟨a, vs, rfl, .inl (.inl hT), fun t nt => ?_⟩
    have s := same_new (Same.refl H1) nt (o := .lst vs.reverse)
    refine q _ n1 _ _ [t] pa (a1.trans (Af.same s)) (.lst upd_same ?_ rfl) (Fp.back a1.fr (fp_new (st.af a1) ⟨List.nodup_cons.mpr ⟨List.not_mem_nil, List.nodup_nil⟩, fun x hx => by rw [List.mem_singleton.mp hx]; exact nt⟩))
    refine ImA.same ?_ s
    have : ∀ {xs : List α} {vs : List V}, ImA K H1 vs (xs.map enc) [] → ImA K H1 vs.reverse (xs.reverse.map enc) [] := by
      intro xs
      induction xs with
      | nil => intro vs h; cases h; exact .nil
      | cons x xs ih =>
        intro vs h
        cases h with
        | cons a b q =>
          have e1 := ima_pu b
          have e2 := Pu.pu a
          subst e1 e2
          rw [List.reverse_cons, List.reverse_cons, List.map_append]
          exact (ih b).app (.cons a .nil rfl)
    exact this hA
end
end Bf
namespace Bf
open PySem PySem.Spec PyProof.Rows L2 LamX NdefX
/-! ## a law -/
def spLaw (K : PySem.W.Frag) : Sp := fun vs H Q _ => ∃ (a : Addr) (ns : List Int), vs = [.ref a] ∧ SqL K H a (ns.map V.int) ∧ ns.length ≤ 63 ∧ ∀ H', Q (.bl true) H'
theorem spLaw_len {K : PySem.W.Frag} {vs : List V} {H : Hp} {Q : VK} {E : XK} (h : spLaw K vs H Q E) : vs.length = 1 := by
  obtain ⟨a, ns, rfl, _⟩ := h
  rfl
def spLawT (K : PySem.W.Frag) (T : List (Addr × Str)) : Sp := fun vs H Q _ => ∃ (a : Addr) (ns : List Int), vs = [.ref a] ∧ SqL K H a (ns.map V.int) ∧ ns.length ≤ 63 ∧ Tabs T H ∧ ∀ H', Q (.bl true) H'
theorem spLawT_len {K : PySem.W.Frag} {T : List (Addr × Str)} {vs : List V} {H : Hp} {Q : VK} {E : XK} (h : spLawT K T vs H Q E) : vs.length = 1 := by
  obtain ⟨a, ns, rfl, _⟩ := h
  rfl
theorem scr_ok {K : PySem.W.Frag} {H : Hp} {a : Addr} {vs : List V} (h : SqL K H a vs) : ScrOk K (fun b o => H b = some o ∧ ∀ ps, o ≠ .tbl ps) a vs := by
  rcases h with (h | ⟨o, h⟩) | h
  · exact .inl ⟨_, ⟨h, fun ps z => nomatch z⟩, .inl rfl⟩
  · exact .inl ⟨_, ⟨h, fun ps z => nomatch z⟩, .inr ⟨_, rfl⟩⟩
  · exact .inr h
theorem lawT_run {K : PySem.W.Frag} {T : List (Addr × Str)} {C : Option Addr → Prop} {B S : Type} {N : List Str} {ρ : List Int → List Sl} {t : TS} {mB : List Int → M (Ctl Bool B S)} {ρn : S → List Sl} {ρb : B → List Sl} (e : ∀ ns, [Sl.scr ns] ++ List.replicate (N.length - 1) Sl.any = ρ ns) (hC : C none) (hr : ∀ ns, RB K T C t (ρ ns) (mB ns) ρn ρb)
    {vs : List V} {H : Hp} {Q : VK} {E : XK} (h : spLawT K T vs H Q E) (win : ∀ ns : List Int, ns.length ≤ 63 → outW (mB ns) 0 fun r _ => r = true) : t { nx := fun _ H' => Q .non H', rt := Q } (L2.start N vs) H := by
  obtain ⟨a, ns, rfl, hS, hl, tb, fin⟩ := h
  refine end_pure (hr ns) hC rfl ⟨_, st_start (ss := [.scr ns]) (fps := [[]]) tb (fun b o z => ⟨z.1, z.2, by simp⟩) (fun a z => nomatch z) rfl (fun i s hi => ?_) (fun i d hi => ?_) (e ns)⟩ (win ns hl) fun r c v' H' fp hr af im _ _ => ?_
  · match i, hi with
    | 0, hi =>
      obtain rfl := Option.some.inj hi
      exact ⟨a, rfl, scr_ok hS⟩
    | i + 1, hi => cases hi
  · match i, hi with
    | 0, hi => cases hi
    | i + 1, hi => cases hi
  · subst hr
    cases im
    exact fin H'
theorem law_run {K : PySem.W.Frag} {T : List (Addr × Str)} {C : Option Addr → Prop} {B S : Type} {N : List Str} {ρ : List Int → List Sl} {t : TS} {mB : List Int → M (Ctl Bool B S)} {ρn : S → List Sl} {ρb : B → List Sl} (e : ∀ ns, [Sl.scr ns] ++ List.replicate (N.length - 1) Sl.any = ρ ns) (hC : C none) (hT : T = []) (hr : ∀ ns, RB K T C t (ρ ns) (mB ns) ρn ρb)
    {vs : List V} {H : Hp} {Q : VK} {E : XK} (h : spLaw K vs H Q E) (win : ∀ ns : List Int, ns.length ≤ 63 → outW (mB ns) 0 fun r _ => r = true) : t { nx := fun _ H' => Q .non H', rt := Q } (L2.start N vs) H := by
  obtain ⟨a, ns, rfl, hS, hl, fin⟩ := h
  subst hT
  exact lawT_run (E := fun _ _ _ => True) e hC hr ⟨a, ns, rfl, hS, hl, (fun p hp => absurd hp List.not_mem_nil), fin⟩ win
end Bf
namespace Bf
/-! ## what the words of pyw come to -/
section
variable {α β R B S : Type}
theorem drop_cons {xs : List α} {k : Nat} {y : α} {ys : List α} (e : xs.drop k = y :: ys) : xs[k]? = some y ∧ k < xs.length ∧ xs.drop (k + 1) = ys := by
  have hy : xs[k]? = some y := by
    have := congrArg (fun l => l[0]?) e
    simpa [List.getElem?_drop] using this
  refine ⟨hy, (List.getElem?_eq_some_iff.mp hy).1, ?_⟩
  rw [← List.drop_drop, e]
  rfl
theorem drop_nil {xs : List α} {k : Nat} (e : xs.drop k = []) (hk : k ≤ xs.length) : k = xs.length := by
  have := congrArg List.length e
  rw [List.length_drop] at this
  simp at this
  omega
theorem forW_inv {f : α → S → M (Ctl R S S)} {xs : List α} {s0 : S} {n0 : Nat} {P : Ctl R B S → Nat → Prop} (I : Nat → S → Nat → Prop) (h0 : I 0 s0 n0)
    (h : ∀ i a s n, xs[i]? = some a → I i s n → ∀ Q : Ctl R S S → Nat → Prop, (∀ s' n', I (i + 1) s' n' → Q (.nxt s') n') → (∀ r n', P (.ret r) n' → Q (.ret r) n') → (∀ s' n', P (.nxt s') n' → Q (.brk s') n') → f a s n Q) (he : ∀ s n, I xs.length s n → P (.nxt s) n) : (forW f xs s0 : M (Ctl R B S)) n0 P := by
  have key : ∀ (ys : List α) (k : Nat) (s : S) (n : Nat), xs.drop k = ys → k ≤ xs.length → I k s n → (forW f ys s : M (Ctl R B S)) n P := by
    intro ys
    induction ys with
    | nil =>
      intro k s n e hk i
      have := drop_nil e hk
      subst this
      rw [forW_nil]
      exact he s n i
    | cons y ys ih =>
      intro k s n e hk i
      rw [forW_cons]
      obtain ⟨hy, hk2, ey⟩ := drop_cons e
      exact h k y s n hy i _ (fun s' n' i' => ih (k + 1) s' n' ey hk2 i') (fun r n' p => p) fun s' n' p => p
  exact key xs 0 s0 n0 rfl (Nat.zero_le _) h0
/-- a loop that only goes on -/
theorem seq_for {S2 : Type} {f : α → S → M (Ctl R S S)} {xs : List α} {s0 : S} {n0 : Nat} {k : S → M (Ctl R B S2)} {P : Ctl R B S2 → Nat → Prop} (I : Nat → S → Nat → Prop) (h0 : I 0 s0 n0)
    (h : ∀ i a s n, xs[i]? = some a → I i s n → ∀ Q : Ctl R S S → Nat → Prop, (∀ s' n', I (i + 1) s' n' → Q (.nxt s') n') → f a s n Q) (he : ∀ s n, I xs.length s n → k s n P) : seqW (forW f xs s0) k n0 P := by
  unfold seqW
  refine forW_inv I h0 (fun i a s n e ii Q q1 q2 q3 => h i a s n e ii Q q1) ?_
  exact fun s n i => he s n i
theorem lcW_inv {mt : α → M Bool} {me : α → M β} {xs : List α} {n0 : Nat} {P : Lst β → Nat → Prop} (I : Nat → List β → Nat → Prop) (h0 : I 0 [] n0)
    (h : ∀ i a acc n, xs[i]? = some a → I i acc n → ∀ Q : List β → Nat → Prop, (∀ acc' n', I (i + 1) acc' n' → Q acc' n') → mt a n fun b n1 => if b = true then me a n1 fun y n2 => Q (acc ++ [y]) n2 else Q acc n1) (he : ∀ acc n, I xs.length acc n → P ⟨acc⟩ n) : lcW mt me xs [] n0 P := by
  have key : ∀ (ys : List α) (k : Nat) (acc : List β) (n : Nat), xs.drop k = ys → k ≤ xs.length → I k acc n → lcW mt me ys acc n P := by
    intro ys
    induction ys with
    | nil =>
      intro k s n e hk i
      have := drop_nil e hk
      subst this
      rw [lcW_nil]
      exact he s n i
    | cons y ys ih =>
      intro k acc n e hk i
      rw [lcW_cons]
      obtain ⟨hy, hk2, ey⟩ := drop_cons e
      have z := h k y acc n hy i (fun acc' n' => lcW mt me ys acc' n' P) fun acc' n' i' => ih (k + 1) acc' n' ey hk2 i'
      show mt y n fun b n1 => (if b = true then bindW (me y) fun z => lcW mt me ys (acc ++ [z]) else lcW mt me ys acc) n1 P
      have e2 : (fun (b : Bool) (n1 : Nat) => (if b = true then bindW (me y) fun z => lcW mt me ys (acc ++ [z]) else lcW mt me ys acc) n1 P) = fun b n1 => if b = true then me y n1 fun z n2 => lcW mt me ys (acc ++ [z]) n2 P else lcW mt me ys acc n1 P := by
        funext b n1
        cases b <;> rfl
      rw [e2]
      exact z
  exact key xs 0 [] n0 rfl (Nat.zero_le _) h0
/-- each item made into something, whatever is drawn -/
theorem lcW_map {me : α → M β} {g : α → β} {xs : List α} {n0 : Nat} {P : Lst β → Nat → Prop} (h : ∀ (i : Nat) a n, xs[i]? = some a → ∀ Q : β → Nat → Prop, Q (g a) n → me a n Q) (p : P ⟨xs.map g⟩ n0) : lcW (fun _ => retW true) me xs [] n0 P := by
  refine lcW_inv (fun i acc n => n = n0 ∧ acc = (xs.take i).map g) ⟨rfl, rfl⟩ ?_ ?_
  · rintro i a acc n e ⟨rfl, rfl⟩ Q q
    dsimp only [retW]
    rw [if_pos rfl]
    refine h i a _ e _ (q _ _ ⟨rfl, ?_⟩)
    rw [List.take_add_one, e, List.map_append]
    rfl
  · rintro acc n ⟨rfl, rfl⟩
    rw [List.take_length]
    exact p
/-- those items that pass -/
theorem lcW_filter {mt : α → M Bool} {t : α → Bool} {xs : List α} {n0 : Nat} {P : Lst α → Nat → Prop} (h : ∀ (i : Nat) a n, xs[i]? = some a → ∀ Q : Bool → Nat → Prop, Q (t a) n → mt a n Q) (p : P ⟨xs.filter t⟩ n0) : lcW mt (fun x => retW x) xs [] n0 P := by
  refine lcW_inv (fun i acc n => n = n0 ∧ acc = (xs.take i).filter t) ⟨rfl, rfl⟩ ?_ ?_
  · rintro i a acc n e ⟨rfl, rfl⟩ Q q
    refine h i a _ e _ ?_
    have et : (xs.take (i + 1)).filter t = (xs.take i).filter t ++ (if t a = true then [a] else []) := by
      rw [List.take_add_one, e, List.filter_append]
      show _ ++ List.filter t [a] = _
      rw [List.filter_cons]
      rfl
    cases ht : t a with
    | true =>
      rw [if_pos rfl]
      refine q _ _ ⟨rfl, ?_⟩
      rw [et, ht]
      rfl
    | false =>
      rw [if_neg (by decide)]
      refine q _ _ ⟨rfl, ?_⟩
      rw [et, ht]
      exact (List.append_nil _).symm
  · rintro acc n ⟨rfl, rfl⟩
    rw [List.take_length]
    exact p
/-- a while by what holds and what gets less -/
theorem seq_while {S2 : Type} {c : S → M Bool} {b : S → M (Ctl R S S)} {s0 : S} {n0 : Nat} {k : S → M (Ctl R B S2)} {P : Ctl R B S2 → Nat → Prop} (I : Nat → S → Nat → Prop) (m0 : Nat) (h0 : I m0 s0 n0)
    (h : ∀ m s n, I m s n → c s n fun t n1 => if t = true then b s n1 fun x n2 => match x with | .nxt s' => ∃ k', k' < m ∧ I k' s' n2 | .ret r => P (.ret r) n2 | .brk s' => k s' n2 P else k s n1 P) : seqW (whileW c b s0) k n0 P := by
  unfold seqW
  unfold whileW
  refine ⟨I, ⟨m0, h0⟩, fun m s n i => ?_⟩
  exact h m s n i
/-- a choice, whichever way -/
theorem if_w {c : Bool} {a b : M α} {n : Nat} {P : α → Nat → Prop} (ha : c = true → a n P) (hb : c = false → b n P) : (if c = true then a else b) n P := by
  cases c with
  | true => exact ha rfl
  | false => exact hb rfl
theorem seq_if {S2 : Type} {c : Bool} {a b : M (Ctl R B S)} {k : S → M (Ctl R B S2)} {n : Nat} {P : Ctl R B S2 → Nat → Prop} (ha : c = true → seqW a k n P) (hb : c = false → seqW b k n P) : seqW (if c = true then a else b) k n P := by
  cases c with
  | true => exact ha rfl
  | false => exact hb rfl
theorem seq_no {S2 : Type} {c : Bool} {a b : M (Ctl R B S)} {k : S → M (Ctl R B S2)} {n : Nat} {P : Ctl R B S2 → Nat → Prop} (e : c = false) (hb : seqW b k n P) : seqW (if c = true then a else b) k n P := by
  subst e
  exact hb
theorem seq_yes {S2 : Type} {c : Bool} {a b : M (Ctl R B S)} {k : S → M (Ctl R B S2)} {n : Nat} {P : Ctl R B S2 → Nat → Prop} (e : c = true) (hb : seqW a k n P) : seqW (if c = true then a else b) k n P := by
  subst e
  exact hb
theorem if_no {c : Bool} {a b : M α} {n : Nat} {P : α → Nat → Prop} (e : c = false) (hb : b n P) : (if c = true then a else b) n P := by
  subst e
  exact hb
theorem if_yes {c : Bool} {a b : M α} {n : Nat} {P : α → Nat → Prop} (e : c = true) (hb : a n P) : (if c = true then a else b) n P := by
  subst e
  exact hb
end
end Bf
namespace Bf
open PySem PySem.Spec PyProof.Rows L2 LamX NdefX
/-! ## data that can be shown and compared -/
structure Gd (d : PyData) (W D : Nat) : Prop where
  sh : d.showable = true
  di : d.hasDict = false
  de : d.depth ≤ D
  lv : d.leavesShort 64 = true
  we : d.weight ≤ W
  ca : d.canLay0 = true
theorem Gd.mono {d : PyData} {W D W' D' : Nat} (h : Gd d W D) (hw : W ≤ W') (hd : D ≤ D') : Gd d W' D' := ⟨h.sh, h.di, Nat.le_trans h.de hd, h.lv, Nat.le_trans h.we hw, h.ca⟩
theorem gd_all {W D : Nat} : ∀ ds : List PyData, (∀ d ∈ ds, Gd d W D) → PyData.showableAll ds = true ∧ PyData.hasDictAll ds = false ∧ PyData.depthAll ds ≤ D ∧ PyData.leavesShortAll 64 ds = true ∧ PyData.weightAll ds ≤ (W + 1) * ds.length ∧ PyData.canLayAll0 ds = true
  | [], _ => ⟨rfl, rfl, Nat.zero_le _, rfl, Nat.le_refl _, rfl⟩
  | d :: ds, h => by
    obtain ⟨a1, a2, a3, a4, a5, a6⟩ := gd_all ds fun x hx => h x (List.mem_cons_of_mem _ hx)
    have o := h d List.mem_cons_self
    refine ⟨?_, ?_, ?_, ?_, ?_, ?_⟩
    · show (PyData.showable d && PyData.showableAll ds) = true
      rw [o.sh, a1]; rfl
    · show (PyData.hasDict d || PyData.hasDictAll ds) = false
      rw [o.di, a2]; rfl
    · show max (PyData.depth d) (PyData.depthAll ds) ≤ D
      have := o.de
      omega
    · show (PyData.leavesShort 64 d && PyData.leavesShortAll 64 ds) = true
      rw [o.lv, a4]; rfl
    · show PyData.weight d + 1 + PyData.weightAll ds ≤ (W + 1) * (ds.length + 1)
      have := o.we
      rw [Nat.mul_add, Nat.mul_one]
      omega
    · show (PyData.canLay0 d && PyData.canLayAll0 ds) = true
      rw [o.ca, a6]; rfl
theorem gd_tup {ds : List PyData} {W D n : Nat} (h : ∀ d ∈ ds, Gd d W D) (hn : ds.length ≤ n) : Gd (.tuple ds) ((W + 1) * n) (D + 1) := by
  obtain ⟨a1, a2, a3, a4, a5, a6⟩ := gd_all ds h
  exact ⟨a1, a2, Nat.succ_le_succ a3, a4, Nat.le_trans a5 (Nat.mul_le_mul_left _ hn), a6⟩
theorem gd_lst {ds : List PyData} {W D n : Nat} (h : ∀ d ∈ ds, Gd d W D) (hn : ds.length ≤ n) : Gd (.list ds) ((W + 1) * n) (D + 1) := by
  obtain ⟨a1, a2, a3, a4, a5, a6⟩ := gd_all ds h
  exact ⟨a1, a2, Nat.succ_le_succ a3, a4, Nat.le_trans a5 (Nat.mul_le_mul_left _ hn), a6⟩
theorem gd_nat {n : Nat} (h : n < 2 ^ 61) : Gd (.int (n : Int)) 62 0 := by
  have h1 : ∀ m ∈ [n], m < 2 ^ 61 := fun m hm => by rw [List.mem_singleton.mp hm]; exact h
  have a := nd_show [n] h1
  have b := nd_leaves [n] h1
  have c := nd_weight [n] h1
  refine ⟨?_, rfl, Nat.le_refl _, ?_, ?_, rfl⟩
  · have a : (PyData.showable (.int (n : Int)) && true) = true := a
    rw [Bool.and_true] at a; exact a
  · have b : (PyData.leavesShort 64 (.int (n : Int)) && true) = true := b
    rw [Bool.and_true] at b; exact b
  · have c : PyData.weight (.int (n : Int)) + 1 + 0 ≤ 63 * 1 := c
    omega
theorem gd_none : Gd .none 0 0 := ⟨rfl, rfl, Nat.le_refl _, rfl, Nat.le_refl _, rfl⟩
theorem gd_bool (b : Bool) : Gd (.bool b) 0 0 := ⟨rfl, rfl, Nat.le_refl _, rfl, Nat.le_refl _, rfl⟩
theorem gd_row {ns : List Nat} {k : Nat} (h : ∀ n ∈ ns, n < 2 ^ 61) (hk : ns.length ≤ k) : Gd (enc ns) (63 * k) 1 := gd_tup (W := 62) (D := 0) (fun d hd => by
  obtain ⟨n, hn, rfl⟩ := List.mem_map.mp hd
  exact gd_nat (h n hn)) (by rw [List.length_map]; exact hk)
theorem gd_rowL {ns : List Nat} {k : Nat} (h : ∀ n ∈ ns, n < 2 ^ 61) (hk : ns.length ≤ k) : Gd (enc (⟨ns⟩ : Lst Nat)) (63 * k) 1 := gd_lst (W := 62) (D := 0) (fun d hd => by
  obtain ⟨n, hn, rfl⟩ := List.mem_map.mp hd
  exact gd_nat (h n hn)) (by rw [List.length_map]; exact hk)
theorem gd_of {α : Type} [Enc α] {xs : List α} {W D k : Nat} (h : ∀ x ∈ xs, Gd (enc x) W D) (hk : xs.length ≤ k) : Gd (enc xs) ((W + 1) * k) (D + 1) := gd_tup (fun d hd => by
  obtain ⟨n, hn, rfl⟩ := List.mem_map.mp hd
  exact h n hn) (by rw [List.length_map]; exact hk)
theorem gd_ofL {α : Type} [Enc α] {xs : List α} {W D k : Nat} (h : ∀ x ∈ xs, Gd (enc x) W D) (hk : xs.length ≤ k) : Gd (enc (⟨xs⟩ : Lst α)) ((W + 1) * k) (D + 1) := gd_lst (fun d hd => by
  obtain ⟨n, hn, rfl⟩ := List.mem_map.mp hd
  exact h n hn) (by rw [List.length_map]; exact hk)
theorem gd_opt {α : Type} [Enc α] {x : Option α} {W D : Nat} (h : ∀ a, x = some a → Gd (enc a) W D) : Gd (enc x) W D := by
  cases x with
  | none => exact gd_none.mono (Nat.zero_le _) (Nat.zero_le _)
  | some a => exact h a rfl
theorem Gd.repr {d : PyData} {W D : Nat} (h : Gd d W D) (hw : W ≤ 250000) (hd : D < 60) : ReprOk d := by
  refine ⟨h.sh, h.di, Nat.lt_of_le_of_lt h.de hd, ?_⟩
  have h1 := PyData.shown_le 64 (by decide) d h.lv
  have h2 := h.we
  rw [sizeLine_eq]
  omega
theorem Gd.shape {d : PyData} {W D : Nat} (h : Gd d W D) (hd : D ≤ 64) : shapeOk d := by
  refine ⟨?_, h.di⟩
  unfold SeqAt.shaped
  rw [h.ca, Bool.true_and]
  exact decide_eq_true (Nat.le_trans h.de hd)
theorem Gd.refl {d : PyData} {W D : Nat} (h : Gd d W D) : PyData.eqv d d = true := PySem.SeqAt.eqv_refl d h.ca
end Bf
namespace Bf
open PySem PySem.Spec PyProof.Rows L2 LamX NdefX
/-- what stands there, where it isn't None -/
def getW {α : Type} (m : M (Option α)) : M α := fun n P => m n fun o n' => ∃ a, o = some a ∧ P a n'
section
variable {K : PySem.W.Frag} {T : List (Addr × Str)} {ρ : List Sl} {α : Type} [Enc α]
theorem re_getW {t : TE} {fr : Bool} {m : M (Option α)} (h : RE K T t ρ fr m) : RE K T t ρ fr (getW m) := re_get h
theorem enc_somes (xs : List Nat) : (xs.map some).map (enc : Option Nat → PyData) = xs.map enc := by
  rw [List.map_map]
  rfl
theorem re_somesL {t : TE} {fr : Bool} {m : M (Lst Nat)} (h : RE K T t ρ fr m) : RE K T t ρ fr (mapW (fun xs : Lst Nat => (⟨xs.l.map some⟩ : Lst (Option Nat))) m) := re_as _ (fun a => congrArg PyData.list (enc_somes a.l)) h
theorem re_somesT {t : TE} {fr : Bool} {m : M (List Nat)} (h : RE K T t ρ fr m) : RE K T t ρ fr (mapW (fun xs : List Nat => xs.map some) m) := re_as _ (fun a => congrArg PyData.tuple (enc_somes a)) h
theorem ri_revR {t : TE} {m : M Nat} {f : Bool} (h : RE K T t ρ f m) : RI K T (iRevR (tRg1 t)) ρ (bindW m fun k => reqW (k < 4611686018427387904) (retW (List.range k).reverse)) := fun Bs po φ σ H n st P p R q => h Bs po φ σ H n st _ p _ fun k n1 v H1 fp pa a1 i1 g1 => by
  cases i1
  refine ⟨(k : Int), rfl, by omega, by omega, by omega, by have := pa.1; omega, ?_⟩
  refine q _ n1 _ H1 [] pa.2 a1 ⟨⟨fun _ => True, YFn fun i => .int ((0 : Int) + ((((k : Int) - 0).toNat : Nat) : Int) - 1 + (i : Nat) * (-1)), ?_, trivial, fun _ _ _ _ _ _ => trivial, fun i H x H' hi _ y => ?_⟩, fun b hb => absurd hb List.not_mem_nil⟩ (fun b hb => absurd hb List.not_mem_nil) fun b hb => absurd hb List.not_mem_nil
  · rw [List.length_reverse, List.length_range]
    have e : ((k : Int) - 0).toNat = k := by omega
    rw [e]
    exact walk_rangeC
  · obtain ⟨rfl, rfl⟩ := y
    rw [List.length_reverse, List.length_range] at hi
    refine ⟨k - 1 - i, by rw [List.getElem?_reverse (by rw [List.length_range]; exact hi), List.length_range, List.getElem?_range (by omega)], Same.refl _, ?_⟩
    show Im K _ (.int ((0 : Int) + ((((k : Int) - 0).toNat : Nat) : Int) - 1 + (i : Nat) * (-1))) (.int ((k - 1 - i : Nat) : Int)) []
    rw [show (0 : Int) + ((((k : Int) - 0).toNat : Nat) : Int) - 1 + (i : Nat) * (-1) = ((k - 1 - i : Nat) : Int) by omega]
    exact .int _
end
end Bf
namespace Bf
open PySem PySem.Spec PyProof.Rows L2 LamX NdefX
section
variable {K : PySem.W.Frag} {T : List (Addr × Str)} {ρ : List Sl} {α : Type} [Enc α]
/-- an own list, only read within an expression -/
theorem re_frz {t : TE} {fr : Bool} {m : M α} {i : Nat} {d : PyData} {ρ2 : List Sl} (hi : ρ[i]? = some (.own d)) (e : ρ.set i (.bor d) = ρ2) (h : RE K T t ρ2 fr m) : RE K T t ρ fr m := fun Bs po φ σ H n st P p Q q => by
  have st2 := st.freeze hi
  rw [e] at st2
  exact h _ po φ σ H n st2 P p Q q
theorem ow_repT [Pu α] : OpW K (rRepI K) (fun (xs : List α) (k : Int) => reqW (xs ≠ [] ∧ -1000 ≤ k ∧ k ≤ 1000 ∧ xs.length ≤ 1000) (retW (List.replicate k.toNat xs).flatten)) := fun xs k H v w fp fq i1 i2 n P p Q q => by
  obtain ⟨⟨hne, k1, k2, hz⟩, pa⟩ := p
  obtain ⟨a, vs, rfl, hT, hA⟩ := im_tup i1
  have e1 := ima_pu hA
  subst e1
  cases i2
  have hl1 := hA.len
  rw [List.length_map] at hl1
  refine ⟨a, k, vs, rfl, rfl, hT.q, fun e => hne ?_, k1, k2, by omega, fun e => ?_, fun _ t nt => ?_⟩
  · subst e
    exact List.eq_nil_of_length_eq_zero hl1.symm
  · subst e
    refine q _ H _ [] pa (Same.refl H) ?_ ⟨List.nodup_nil, fun x h => absurd h List.not_mem_nil⟩
    have : (List.replicate (1 : Int).toNat xs).flatten = xs := by simp
    rw [this]
    exact i1
  · have s := same_new (Same.refl H) nt (o := .tup (List.replicate k.toNat vs).flatten)
    refine q _ _ _ [] pa s (.tup upd_same ?_) ⟨List.nodup_nil, fun x h => absurd h List.not_mem_nil⟩
    refine ImA.same ?_ s
    generalize k.toNat = m
    show ImA K H _ ((List.replicate m xs).flatten.map enc) []
    induction m with
    | zero => exact .nil
    | succ m ih =>
      rw [List.replicate_succ, List.replicate_succ, List.flatten_cons, List.flatten_cons, List.map_append]
      exact hA.app ih
end
end Bf
namespace Bf
open PySem PySem.Spec PyProof.Rows L2
/-! ### set(xs) of a list of whole numbers -/
section
variable {P : Program} {w : World} {A : Around} {E : Value → Shared → Prop} {s : Shared}
abbrev bare (w : World) : Obj := { cls := .type "set", dict := none, data := .set #[] 0 (.fresh 0 0 (!w.params.followText "set-order")) }
abbrev withBare (w : World) (s : Shared) : Shared := { s with heap := s.heap.push (bare w) }
/-- what the filling leaves: S holds just the numbers, all else stands -/
structure Filled (w : World) (S : Addr) (ns : List Int) (s s' : Shared) : Prop where
  set : ∃ c, c ≤ ns.length ∧ SetR w s'.heap S (fun j => decide (j ∈ ns)) c
  keep : ∀ b o, b ≠ S → s.heap.get? b = some o → s'.heap.get? b = some o
  gens : s'.gens = s.gens
  drawn : s'.drawn = s.drawn
  os : s'.os = s.os
theorem fill_loop {S l I : Addr} {items : Array Value} {ns : List Int} {R : Result → Shared → Prop} (hh : A.in1.handled = none) (hne : l ≠ I) (hS : S ≠ I) (hSl : S ≠ l) (hit : IntsAre items.toList ns) (hb : ns.length + 1 < scanBound)
    (st : s.heap.IsListIter I l 0) (hl : s.heap.IsList l items) (h0 : s.heap.get? S = some (bare w))
    (h : ∀ s', (∃ c, c ≤ ns.length ∧ SetR w s'.heap S (fun j => decide (j ∈ ns)) c) → (∀ b o, b ≠ S → b ≠ I → s.heap.get? b = some o → s'.heap.get? b = some o) → s'.gens = s.gens → s'.drawn = s.drawn → s'.os = s.os → R (.ok (.ret .none)) s') :
    codeAny (model P w) A (.builtin "set.update.loop" ⟨[.ref S, .ref I], []⟩) R s := by
  have hn : items.size = ns.length := by
    have e := IntsAre.length hit
    rw [Array.length_toList] at e
    exact e
  refine L2.set_update_ints ((Walks.list hh I l hne items).toS) S (by simp [hS, hSl]) ns hn hb (fun i v hv => ?_) (items.size - 0) 0 s rfl (Nat.zero_le _) ⟨st, hl⟩ ⟨0, Nat.le_refl 0, L2.setR_new_at h0⟩ fun s' c hm hc hR => ?_
  · have hi : i < ns.length := by
      rw [← hn]
      exact (Array.getElem?_eq_some_iff.mp hv).1
    obtain ⟨t, e⟩ := IntsAre.int_at hit i v (by rw [Array.getElem?_toList]; exact hv)
    refine ⟨ns[i], t, List.getElem?_eq_getElem hi, ?_⟩
    rw [e, List.getD_eq_getElem?_getD, List.getElem?_eq_getElem hi] <;> rfl
  · exact h s' ⟨c, by omega, hR⟩ (fun b o h1 h2 e => hm.heap b o (by simp [h1, h2]) e) hm.gens hm.drawn hm.os
theorem fill_init {S l : Addr} {items : Array Value} {ns : List Int} {Q : PySem.Fin → Shared → Prop} (hh : A.handled = none) (hSl : S ≠ l) (hS : s.heap.get? S = some (bare w)) (hl : s.heap.IsList l items) (hit : IntsAre items.toList ns) (hb : ns.length + 1 < scanBound)
    (h : ∀ s', Filled w S ns s s' → Q (.done (.ret .none)) s') : wpAny (model P w) A (Builtin.«set.__init__» ⟨[.ref S, .ref l], []⟩) Q E s := by
  obtain ⟨⟨oc, od, dat, sl⟩, hol, hcl, nl, hdl⟩ := id hl
  dsimp only at hcl hdl
  subst hcl hdl
  have n1 := PySem.F.sub_list_set
  have n2 := PySem.F.sub_list_frozenset
  have n3 : (Value.type "list" == Value.type "dict") = false := by decide
  have n4 := sub_set_self
  have hSlt := Heap.lt_size hS
  have hllt := Heap.lt_size hol
  unfold Builtin.«set.__init__» noKeywords Builtin.Frozenset.updateFrom
  generalize hPI : pyIter = PI
  wp_walk
  subst hPI
  refine wpAny_pyIter_list hl (wpAny_bind (wpAny_runValue ?_))
  refine fill_loop (l := l) (items := items) (ns := ns) (by simp [hh]) (Nat.ne_of_lt hllt) (Nat.ne_of_lt hSlt) hSl hit hb ⟨_, Heap.get?_push_size _ rfl, rfl, rfl⟩ (hl.push _) (Heap.get?_push_of_some _ hS) fun s' h1 h2 h3 h4 h5 => ?_
  refine wpAny_pure (wpAny_pure (h s' ⟨h1, fun b o hbS e => ?_, h3, h4, h5⟩))
  exact h2 b o hbS (Nat.ne_of_lt (Heap.lt_size e)) (Heap.get?_push_of_some _ e)
theorem set_call {l : Addr} {items : Array Value} {ns : List Int} {Q : Value → Shared → Prop} (hh : A.handled = none) (hl : s.heap.IsList l items) (hit : IntsAre items.toList ns) (hb : ns.length + 1 < scanBound)
    (h : ∀ s', Filled w s.heap.objs.size ns (withBare w s) s' → Q (.ref s.heap.objs.size) s') : wpAny (model P w) A (call (.type "set") [.ref l]) Q E s := by
  obtain ⟨ol, hol, _⟩ := id hl
  have hlt := Heap.lt_size hol
  have m1 := PySem.F.called_set.mro
  obtain ⟨c, tl, hmro⟩ := m1
  have m2 := PySem.F.called_set.made
  have m3 := PySem.F.called_set.sub
  have m4 := PySem.F.called_set.notType
  have m5 := PySem.F.called_set.canCreate
  have m6 := PySem.F.typeCall_set_1 (.ref l)
  have m7 := PySem.F.called_set.init.lookup
  have m8 := PySem.F.called_set.init.bind (.ref s.heap.objs.size)
  have hS : (withBare w s).heap.get? s.heap.objs.size = some (bare w) := Heap.get?_push_size _ rfl
  have hT : Shared.TypeIs (withBare w s) (.ref s.heap.objs.size) "set" := ⟨_, hS, rfl⟩
  refine wpAny_call (codeAny_of_tree (wpAny_pure ⟨Code.quiet_builtin _ (by decide +kernel), codeAny_builtin PySem.F.entry_type_call ?_⟩))
  rw [Around.under_plain (weight_type_call_type "set" [.ref l] []) rfl]
  repeat (any_goals (first | assumption | wp_step))
  refine codeAny_mono (L2.code_set_led1 (.ref l) (E := E) (Q₁ := fun obj s₁ => obj = .ref s.heap.objs.size ∧ s₁ = withBare w s) ⟨rfl, rfl⟩) fun r s₁ hr => ?_
  match r, s₁, hr with
  | .ok (.ret _), _, ⟨rfl, rfl⟩ =>
    repeat (any_goals (first | assumption | wp_step))
    refine codeAny_mono (codeAny_call_builtin (R := wants (fun r s₂ => r = .none ∧ Filled w s.heap.objs.size ns (withBare w s) s₂) E) PySem.F.called_set.init.plain PySem.F.entry_set_init (check_set_init_1 hT ?_)) fun r₂ s₂ hr₂ => ?_
    · exact fill_init (by simp [hh]) (Nat.ne_of_gt hlt) hS (hl.push _) hit hb fun s' hf => ⟨rfl, hf⟩
    · match r₂, s₂, hr₂ with
      | .ok (.ret _), _, ⟨rfl, hf⟩ =>
        repeat (any_goals (first | assumption | wp_step))
        exact h _ hf
      | .error e, _, hr₂ => exact hr₂
  | .error e, _, hr => exact hr
end
def rSetL (K : PySem.W.Frag) (w : World) : List V → Hp → VK → Prop := fun xs H Q => ∃ (l : Addr) (ns : List Int), xs = [.ref l] ∧ SqL K H l (ns.map V.int) ∧ ns.length ≤ 1000 ∧ ∀ a c, H a = none → c ≤ ns.length → Q (.ref a) (upd H a (SetO w a (fun j => decide (j ∈ ns)) c))
theorem cr_setL {X : Cx} (hc : X.calm = true) : CallR X (.type "set") (rSetL X.K X.w) := by
  intro pins s σ H xs us Q I r h
  obtain ⟨l, ns, rfl, hq, hn, q⟩ := h
  obtain ⟨u, rfl, ru⟩ := vals1 r
  cases ru
  obtain ⟨its, rv, pl, hz⟩ := I.list hq
  refine set_call (I.ok.hd hc) pl.isList (by simpa using RZ.intsAre_vals rv) (by unfold scanBound; omega) fun s' hf => ?_
  obtain ⟨⟨c, hc1, hR⟩, hk, e1, e2, e3⟩ := hf
  obtain ⟨h', g', d', t', o'⟩ := s'
  dsimp only at hR hk e1 e2 e3
  subst e1 e2 e3
  exact ⟨.ref _, upd H s.heap.objs.size (SetO X.w s.heap.objs.size (fun j => decide (j ∈ ns)) c), I.laid (t' := t') (fun b u e => hk b u (Nat.ne_of_lt (Heap.lt_size e)) (Heap.get?_push_of_some _ e)) (Nat.le_refl _) (setO_new hR), rfl, q _ c (I.hok.fresh (Nat.le_refl _)) hc1⟩
end Bf
namespace Bf
open PySem PySem.Spec PyProof.Rows L2 LamX NdefX
/-! ### set of a tuple of whole numbers, sorted -/
def rSetU (K : PySem.W.Frag) (w : World) : List V → Hp → VK → Prop := fun xs H Q => ∃ (l : Addr) (ns : List Int), xs = [.ref l] ∧ SqT K H l (ns.map V.int) ∧ ns.length ≤ 1000 ∧ ∀ a c, H a = none → c ≤ ns.length → Q (.ref a) (upd H a (SetO w a (fun j => decide (j ∈ ns)) c))
theorem cr_setU {X : Cx} (hc : X.calm = true) : CallR X (.type "set") (rSetU X.K X.w) := by
  intro pins s σ H xs us Q I r h
  obtain ⟨l, ns, rfl, hq, hn, q⟩ := h
  obtain ⟨u, rfl, ru⟩ := vals1 r
  cases ru
  obtain ⟨its, rv, pl, hz⟩ := I.tuple hq
  refine L2.call_set_tupI ns (I.ok.hd hc) pl (by simpa using RZ.intsAre_vals rv) (by unfold scanBound; omega) fun h' tk c hR hc1 hk => ?_
  exact ⟨.ref _, upd H s.heap.objs.size (SetO X.w s.heap.objs.size (fun j => decide (j ∈ ns)) c), I.laid (t' := tk) (fun b u e => hk b u e) (Nat.le_refl _) (setO_new hR), rfl, q _ c (I.hok.fresh (Nat.le_refl _)) hc1⟩
theorem set_rise {ns : List Int} {L : List Nat} (hpw : ns.Pairwise (· < ·)) (hmem : ∀ k : Int, k ∈ ns ↔ decide (k ∈ L.map fun (n : Nat) => (n : Int)) = true) : ∃ zs : List Nat, ns = zs.map (fun (n : Nat) => (n : Int)) ∧ zs.Pairwise (· < ·) ∧ ∀ z, z ∈ zs ↔ z ∈ L := by
  have ens : ns = (ns.map Int.toNat).map fun (n : Nat) => (n : Int) := by
    rw [List.map_map]
    conv => lhs; rw [← List.map_id ns]
    refine List.map_congr_left fun x hx => ?_
    obtain ⟨y, _, rfl⟩ := List.mem_map.mp (of_decide_eq_true ((hmem x).mp hx))
    rfl
  generalize ns.map Int.toNat = zs at ens
  subst ens
  refine ⟨zs, rfl, ?_, fun z => ?_⟩
  · rw [List.pairwise_map] at hpw
    exact hpw.imp fun {a b} h => by omega
  · have h1 : ((z : Int) ∈ zs.map fun (n : Nat) => (n : Int)) ↔ z ∈ zs := ⟨fun h => by
      obtain ⟨y, hy, e⟩ := List.mem_map.mp h
      have : y = z := Int.ofNat.inj e
      rw [← this]
      exact hy, fun h => List.mem_map.mpr ⟨z, h, rfl⟩⟩
    have h2 : ((z : Int) ∈ L.map fun (n : Nat) => (n : Int)) ↔ z ∈ L := ⟨fun h => by
      obtain ⟨y, hy, e⟩ := List.mem_map.mp h
      have : y = z := Int.ofNat.inj e
      rw [← this]
      exact hy, fun h => List.mem_map.mpr ⟨z, h, rfl⟩⟩
    rw [← h1, hmem, decide_eq_true_iff, h2]
/-! ### the hands between -/
def mid (q h s j : Nat) : List Nat := (wl s (cl q (h ^^^ s) j)).tail.dropLast
theorem mid_mem {q h s j o : Nat} : o ∈ mid q h s j ↔ Bt q (h ^^^ s) j (o ^^^ s) := by
  unfold mid Bt
  generalize cl q (h ^^^ s) j = ks
  have e : (wl s ks).tail.dropLast = ((List.range (ks.length + 1)).tail.dropLast).map fun i => wf s (ks.take i) := by
    unfold wl
    rw [← List.map_tail, ← List.map_dropLast]
  have er : ∀ i, i ∈ (List.range (ks.length + 1)).tail.dropLast ↔ 1 ≤ i ∧ i < ks.length := fun i => by
    rw [List.range_succ_eq_map, List.tail_cons]
    cases hn : ks.length with
    | zero =>
      constructor
      · intro h
        exact absurd h List.not_mem_nil
      · intro h
        omega
    | succ n =>
      rw [List.range_succ, List.map_append, List.map_cons, List.map_nil, List.dropLast_concat, List.mem_map]
      constructor
      · rintro ⟨a, ha, rfl⟩
        rw [List.mem_range] at ha
        omega
      · rintro ⟨h1, h2⟩
        exact ⟨i - 1, List.mem_range.mpr (by omega), by omega⟩
  rw [e, List.mem_map]
  constructor
  · rintro ⟨i, hi, rfl⟩
    obtain ⟨h1, h2⟩ := (er i).mp hi
    refine ⟨i, h1, h2, ?_⟩
    rw [wf_xor (ks.take i) s, Nat.xor_comm s, Nat.xor_assoc, Nat.xor_self, Nat.xor_zero]
  · rintro ⟨i, h1, h2, h3⟩
    refine ⟨i, (er i).mpr ⟨h1, h2⟩, ?_⟩
    rw [wf_xor, h3, Nat.xor_comm, Nat.xor_assoc, Nat.xor_self, Nat.xor_zero]
theorem bt_end {q d j : Nat} (hj : j < q) (hd : d < 2 ^ q) : ¬ Bt q d j 0 ∧ ¬ Bt q d j d := by
  constructor
  · intro h
    have := ((bt_iff hj hd (Nat.two_pow_pos q)).mp h).1.1
    rw [Nat.zero_testBit] at this
    cases this
  · intro h
    exact ((bt_iff hj hd hd).mp h).2 rfl
theorem nodup_le : ∀ {l m : List Nat}, l.Nodup → (∀ x ∈ l, x ∈ m) → l.length ≤ m.length
  | [], m, _, _ => Nat.zero_le _
  | a :: l, m, nd, h => by
    obtain ⟨n1, n2⟩ := List.nodup_cons.mp nd
    have ha : a ∈ m := h a List.mem_cons_self
    have := nodup_le (l := l) (m := m.erase a) n2 fun x hx => (List.mem_erase_of_ne (fun (e : x = a) => n1 (e ▸ hx))).mpr (h x (List.mem_cons_of_mem a hx))
    rw [List.length_erase_of_mem ha] at this
    have := List.length_pos_of_mem ha
    rw [List.length_cons]
    omega
end Bf
namespace Bf
open PySem PySem.Spec PyProof.Rows L2 LamX NdefX
/-! ## calls, some arguments by place, the others by names -/
def gN {α : Type} (n : Nat) (π : List Nat) (us ws : List α) : List α := if us.length = n ∧ us.length + ws.length = π.length then π.filterMap (fun i => (us ++ ws)[i]?) else []
theorem vals_app {zs : List V} {us : List Value} {xs : List V} {ws : List Value} (r : Vals zs us) (r2 : Vals xs ws) : Vals (zs ++ xs) (us ++ ws) := by
  induction r with
  | nil => exact r2
  | cons a r ih => exact .cons a ih
theorem gN_rel {n : Nat} {π : List Nat} {vs zs : List V} {us ws : List Value} (r1 : Vals vs us) (r2 : Vals zs ws) : Vals (gN n π vs zs) (gN n π us ws) := by
  unfold gN
  rw [r1.length, r2.length]
  by_cases e : us.length = n ∧ us.length + ws.length = π.length
  · rw [if_pos e, if_pos e]
    exact gP_pick (vals_app r1 r2) π
  · rw [if_neg e, if_neg e]
    exact .nil
theorem gN_len {n m : Nat} {π : List Nat} {us ws : List Value} (hm : 0 < m) (h : (gN n π us ws).length = m) : us.length = n ∧ us.length + ws.length = π.length := by
  unfold gN at h
  by_cases e : us.length = n ∧ us.length + ws.length = π.length
  · exact e
  · rw [if_neg e] at h
    have : 0 = m := h
    omega
theorem kbN {n m : Nat} {π : List Nat} {ps ks : List Str} {K : PySem.W.Frag} {x : Str} {st : Stmt} {f : Addr} {fd : FuncData} (F : FunS K x st f fd) (hp : 0 < ps.length) (hm : n + m = π.length)
    (h : ∀ (kV doc pm : Value) (an : Option Addr) (cdv ct : Value) (us ws : List Value), us.length = n → ws.length = m → bindArgs (PySem.W.fnOf x x (defArgs st) (defBody st) (defScope st) .none kV doc pm an cdv ct) ⟨us, ks.zip ws⟩ = pure (ps.zip (gN n π us ws))) :
    KBinds K fd ps ks (gN n π) (gN n π) := by
  obtain ⟨oc, od, dV, kV, doc, pm, an, cdv, ct, osl, rfl, lk, hcd, hD, hK⟩ := F.ex
  rcases hD with ⟨_, rfl⟩ | ⟨z, _⟩
  · refine ⟨fun s us ws _ hl => ?_, fun r1 r2 => gN_rel r1 r2⟩
    obtain ⟨h1, h2⟩ := gN_len hp hl
    exact .of_eq (h kV doc pm an cdv ct us ws h1 (by omega))
  · exact absurd rfl z
theorem kbM {n m : Nat} {π : List Nat} {ps ks : List Str} {K : PySem.W.Frag} {x : Str} {st : Stmt} {f : Addr} {fd : FuncData} (F : Fun K x x st f fd) (hp : 0 < ps.length) (hm : n + m = π.length)
    (h : ∀ (kV doc pm : Value) (an : Option Addr) (cdv ct : Value) (us ws : List Value), us.length = n → ws.length = m → bindArgs (PySem.W.fnOf x x (defArgs st) (defBody st) (defScope st) .none kV doc pm an cdv ct) ⟨us, ks.zip ws⟩ = pure (ps.zip (gN n π us ws))) :
    KBinds K fd ps ks (gN n π) (gN n π) := by
  obtain ⟨oc, od, kV, doc, pm, an, cdv, ct, osl, rfl, lk, hcd⟩ := F.ex
  refine ⟨fun s us ws _ hl => ?_, fun r1 r2 => gN_rel r1 r2⟩
  obtain ⟨h1, h2⟩ := gN_len hp hl
  exact .of_eq (h kV doc pm an cdv ct us ws h1 (by omega))
/-- a def whose last parameter stands behind a star -/
structure CalS (P : Program) (w : World) (K : PySem.W.Frag) (mg : Str → Option Value) (base : Heap) (k : Nat) (x : Str) (f : Addr) (fd : FuncData) (ps : List Str) (sp : Sp) : Prop where
  G : FnOk P w K mg base CX0 k f fd ps sp
  kp : PySem.W.keepIn K (.ref f) = true
  g : mg x = some (.ref f)
section
variable {K : PySem.W.Frag} {T : List (Addr × Str)} {ρ : List Sl}
variable {α β γ δ : Type} [Enc α] [Enc β] [Enc γ] [Enc δ]
theorem re_calld1 {α1 R : Type} [Enc α1] [Enc R] {f : α1 → Nat → M R} {E : XK} {t1 : TE} {m1 : M α1} {b1 : Bool} (h1 : RE K T t1 ρ b1 m1) : RE K T (tCall (spW2 K T f) [.int 0] E (tCons t1 tNil)) ρ true (c1W m1 fun a1 => pureW (f a1 0)) := fun Bs po φ σ H n st P p Q q =>
  h1 Bs po φ σ H n st _ p _ fun a1 n1 v1 H1 f1 p1 x1 i1 g1 =>
  ⟨_, (0 : Nat), _, V.int 0, _, [], rfl, ⟨i1, Im.int _⟩, (st.af x1).tabs, _, p1, fun r c v' H' fp pr af im nd hf => q r n1 v' H' fp pr (Af.trans x1 ⟨Fr.weak af.fr, af.tabs, fun a e z => keep_pot af z⟩) im (Fp.back x1.fr ⟨fun b hb => (st.af x1).fresh_pot (hf b hb), fun _ => ⟨nd, hf⟩⟩)⟩
theorem re_calld2 {α1 α2 R : Type} [Enc α1] [Enc α2] [Enc R] {f : α1 → α2 → Nat → M R} {E : XK} {t1 : TE} {m1 : M α1} {b1 : Bool} (h1 : RE K T t1 ρ b1 m1) {t2 : TE} {m2 : M α2} {b2 : Bool} (h2 : RE K T t2 ρ b2 m2) : RE K T (tCall (spW3 K T f) [.int 0] E (tCons t1 (tCons t2 tNil))) ρ true (c2W m1 m2 fun a1 a2 => pureW (f a1 a2 0)) := fun Bs po φ σ H n st P p Q q =>
  h1 Bs po φ σ H n st _ p _ fun a1 n1 v1 H1 f1 p1 x1 i1 g1 =>
  h2 Bs po φ σ H1 n1 (st.af x1) _ p1 _ fun a2 n2 v2 H2 f2 p2 x2 i2 g2 =>
  ⟨_, _, (0 : Nat), _, _, V.int 0, _, _, [], rfl, ⟨(i1.af g1.1 x2.fr), i2, Im.int _⟩, ((st.af x1).af x2).tabs, _, p2, fun r c v' H' fp pr af im nd hf => q r n2 v' H' fp pr (Af.trans (Af.trans x1 x2) ⟨Fr.weak af.fr, af.tabs, fun a e z => keep_pot af z⟩) im (Fp.back (Af.trans x1 x2).fr ⟨fun b hb => ((st.af x1).af x2).fresh_pot (hf b hb), fun _ => ⟨nd, hf⟩⟩)⟩
theorem re_calld3 {α1 α2 α3 R : Type} [Enc α1] [Enc α2] [Enc α3] [Enc R] {f : α1 → α2 → α3 → Nat → M R} {E : XK} {t1 : TE} {m1 : M α1} {b1 : Bool} (h1 : RE K T t1 ρ b1 m1) {t2 : TE} {m2 : M α2} {b2 : Bool} (h2 : RE K T t2 ρ b2 m2) {t3 : TE} {m3 : M α3} {b3 : Bool} (h3 : RE K T t3 ρ b3 m3) : RE K T (tCall (spW4 K T f) [.int 0] E (tCons t1 (tCons t2 (tCons t3 tNil)))) ρ true (c3W m1 m2 m3 fun a1 a2 a3 => pureW (f a1 a2 a3 0)) := fun Bs po φ σ H n st P p Q q =>
  h1 Bs po φ σ H n st _ p _ fun a1 n1 v1 H1 f1 p1 x1 i1 g1 =>
  h2 Bs po φ σ H1 n1 (st.af x1) _ p1 _ fun a2 n2 v2 H2 f2 p2 x2 i2 g2 =>
  h3 Bs po φ σ H2 n2 ((st.af x1).af x2) _ p2 _ fun a3 n3 v3 H3 f3 p3 x3 i3 g3 =>
  ⟨_, _, _, (0 : Nat), _, _, _, V.int 0, _, _, _, [], rfl, ⟨((i1.af g1.1 x2.fr).af g1.1 x3.fr), (i2.af g2.1 x3.fr), i3, Im.int _⟩, (((st.af x1).af x2).af x3).tabs, _, p3, fun r c v' H' fp pr af im nd hf => q r n3 v' H' fp pr (Af.trans (Af.trans (Af.trans x1 x2) x3) ⟨Fr.weak af.fr, af.tabs, fun a e z => keep_pot af z⟩) im (Fp.back (Af.trans (Af.trans x1 x2) x3).fr ⟨fun b hb => (((st.af x1).af x2).af x3).fresh_pot (hf b hb), fun _ => ⟨nd, hf⟩⟩)⟩
theorem re_calld4 {α1 α2 α3 α4 R : Type} [Enc α1] [Enc α2] [Enc α3] [Enc α4] [Enc R] {f : α1 → α2 → α3 → α4 → Nat → M R} {E : XK} {t1 : TE} {m1 : M α1} {b1 : Bool} (h1 : RE K T t1 ρ b1 m1) {t2 : TE} {m2 : M α2} {b2 : Bool} (h2 : RE K T t2 ρ b2 m2) {t3 : TE} {m3 : M α3} {b3 : Bool} (h3 : RE K T t3 ρ b3 m3) {t4 : TE} {m4 : M α4} {b4 : Bool} (h4 : RE K T t4 ρ b4 m4) : RE K T (tCall (spW5 K T f) [.int 0] E (tCons t1 (tCons t2 (tCons t3 (tCons t4 tNil))))) ρ true (c4W m1 m2 m3 m4 fun a1 a2 a3 a4 => pureW (f a1 a2 a3 a4 0)) := fun Bs po φ σ H n st P p Q q =>
  h1 Bs po φ σ H n st _ p _ fun a1 n1 v1 H1 f1 p1 x1 i1 g1 =>
  h2 Bs po φ σ H1 n1 (st.af x1) _ p1 _ fun a2 n2 v2 H2 f2 p2 x2 i2 g2 =>
  h3 Bs po φ σ H2 n2 ((st.af x1).af x2) _ p2 _ fun a3 n3 v3 H3 f3 p3 x3 i3 g3 =>
  h4 Bs po φ σ H3 n3 (((st.af x1).af x2).af x3) _ p3 _ fun a4 n4 v4 H4 f4 p4 x4 i4 g4 =>
  ⟨_, _, _, _, (0 : Nat), _, _, _, _, V.int 0, _, _, _, _, [], rfl, ⟨(((i1.af g1.1 x2.fr).af g1.1 x3.fr).af g1.1 x4.fr), ((i2.af g2.1 x3.fr).af g2.1 x4.fr), (i3.af g3.1 x4.fr), i4, Im.int _⟩, ((((st.af x1).af x2).af x3).af x4).tabs, _, p4, fun r c v' H' fp pr af im nd hf => q r n4 v' H' fp pr (Af.trans (Af.trans (Af.trans (Af.trans x1 x2) x3) x4) ⟨Fr.weak af.fr, af.tabs, fun a e z => keep_pot af z⟩) im (Fp.back (Af.trans (Af.trans (Af.trans x1 x2) x3) x4).fr ⟨fun b hb => ((((st.af x1).af x2).af x3).af x4).fresh_pot (hf b hb), fun _ => ⟨nd, hf⟩⟩)⟩
theorem re_calld5 {α1 α2 α3 α4 α5 R : Type} [Enc α1] [Enc α2] [Enc α3] [Enc α4] [Enc α5] [Enc R] {f : α1 → α2 → α3 → α4 → α5 → Nat → M R} {E : XK} {t1 : TE} {m1 : M α1} {b1 : Bool} (h1 : RE K T t1 ρ b1 m1) {t2 : TE} {m2 : M α2} {b2 : Bool} (h2 : RE K T t2 ρ b2 m2) {t3 : TE} {m3 : M α3} {b3 : Bool} (h3 : RE K T t3 ρ b3 m3) {t4 : TE} {m4 : M α4} {b4 : Bool} (h4 : RE K T t4 ρ b4 m4) {t5 : TE} {m5 : M α5} {b5 : Bool} (h5 : RE K T t5 ρ b5 m5) : RE K T (tCall (spW6 K T f) [.int 0] E (tCons t1 (tCons t2 (tCons t3 (tCons t4 (tCons t5 tNil)))))) ρ true (c5W m1 m2 m3 m4 m5 fun a1 a2 a3 a4 a5 => pureW (f a1 a2 a3 a4 a5 0)) := fun Bs po φ σ H n st P p Q q =>
  h1 Bs po φ σ H n st _ p _ fun a1 n1 v1 H1 f1 p1 x1 i1 g1 =>
  h2 Bs po φ σ H1 n1 (st.af x1) _ p1 _ fun a2 n2 v2 H2 f2 p2 x2 i2 g2 =>
  h3 Bs po φ σ H2 n2 ((st.af x1).af x2) _ p2 _ fun a3 n3 v3 H3 f3 p3 x3 i3 g3 =>
  h4 Bs po φ σ H3 n3 (((st.af x1).af x2).af x3) _ p3 _ fun a4 n4 v4 H4 f4 p4 x4 i4 g4 =>
  h5 Bs po φ σ H4 n4 ((((st.af x1).af x2).af x3).af x4) _ p4 _ fun a5 n5 v5 H5 f5 p5 x5 i5 g5 =>
  ⟨_, _, _, _, _, (0 : Nat), _, _, _, _, _, V.int 0, _, _, _, _, _, [], rfl, ⟨((((i1.af g1.1 x2.fr).af g1.1 x3.fr).af g1.1 x4.fr).af g1.1 x5.fr), (((i2.af g2.1 x3.fr).af g2.1 x4.fr).af g2.1 x5.fr), ((i3.af g3.1 x4.fr).af g3.1 x5.fr), (i4.af g4.1 x5.fr), i5, Im.int _⟩, (((((st.af x1).af x2).af x3).af x4).af x5).tabs, _, p5, fun r c v' H' fp pr af im nd hf => q r n5 v' H' fp pr (Af.trans (Af.trans (Af.trans (Af.trans (Af.trans x1 x2) x3) x4) x5) ⟨Fr.weak af.fr, af.tabs, fun a e z => keep_pot af z⟩) im (Fp.back (Af.trans (Af.trans (Af.trans (Af.trans x1 x2) x3) x4) x5).fr ⟨fun b hb => (((((st.af x1).af x2).af x3).af x4).af x5).fresh_pot (hf b hb), fun _ => ⟨nd, hf⟩⟩)⟩
theorem re_calld6 {α1 α2 α3 α4 α5 α6 R : Type} [Enc α1] [Enc α2] [Enc α3] [Enc α4] [Enc α5] [Enc α6] [Enc R] {f : α1 → α2 → α3 → α4 → α5 → α6 → Nat → M R} {E : XK} {t1 : TE} {m1 : M α1} {b1 : Bool} (h1 : RE K T t1 ρ b1 m1) {t2 : TE} {m2 : M α2} {b2 : Bool} (h2 : RE K T t2 ρ b2 m2) {t3 : TE} {m3 : M α3} {b3 : Bool} (h3 : RE K T t3 ρ b3 m3) {t4 : TE} {m4 : M α4} {b4 : Bool} (h4 : RE K T t4 ρ b4 m4) {t5 : TE} {m5 : M α5} {b5 : Bool} (h5 : RE K T t5 ρ b5 m5) {t6 : TE} {m6 : M α6} {b6 : Bool} (h6 : RE K T t6 ρ b6 m6) : RE K T (tCall (spW7 K T f) [.int 0] E (tCons t1 (tCons t2 (tCons t3 (tCons t4 (tCons t5 (tCons t6 tNil))))))) ρ true (c6W m1 m2 m3 m4 m5 m6 fun a1 a2 a3 a4 a5 a6 => pureW (f a1 a2 a3 a4 a5 a6 0)) := fun Bs po φ σ H n st P p Q q =>
  h1 Bs po φ σ H n st _ p _ fun a1 n1 v1 H1 f1 p1 x1 i1 g1 =>
  h2 Bs po φ σ H1 n1 (st.af x1) _ p1 _ fun a2 n2 v2 H2 f2 p2 x2 i2 g2 =>
  h3 Bs po φ σ H2 n2 ((st.af x1).af x2) _ p2 _ fun a3 n3 v3 H3 f3 p3 x3 i3 g3 =>
  h4 Bs po φ σ H3 n3 (((st.af x1).af x2).af x3) _ p3 _ fun a4 n4 v4 H4 f4 p4 x4 i4 g4 =>
  h5 Bs po φ σ H4 n4 ((((st.af x1).af x2).af x3).af x4) _ p4 _ fun a5 n5 v5 H5 f5 p5 x5 i5 g5 =>
  h6 Bs po φ σ H5 n5 (((((st.af x1).af x2).af x3).af x4).af x5) _ p5 _ fun a6 n6 v6 H6 f6 p6 x6 i6 g6 =>
  ⟨_, _, _, _, _, _, (0 : Nat), _, _, _, _, _, _, V.int 0, _, _, _, _, _, _, [], rfl, ⟨(((((i1.af g1.1 x2.fr).af g1.1 x3.fr).af g1.1 x4.fr).af g1.1 x5.fr).af g1.1 x6.fr), ((((i2.af g2.1 x3.fr).af g2.1 x4.fr).af g2.1 x5.fr).af g2.1 x6.fr), (((i3.af g3.1 x4.fr).af g3.1 x5.fr).af g3.1 x6.fr), ((i4.af g4.1 x5.fr).af g4.1 x6.fr), (i5.af g5.1 x6.fr), i6, Im.int _⟩, ((((((st.af x1).af x2).af x3).af x4).af x5).af x6).tabs, _, p6, fun r c v' H' fp pr af im nd hf => q r n6 v' H' fp pr (Af.trans (Af.trans (Af.trans (Af.trans (Af.trans (Af.trans x1 x2) x3) x4) x5) x6) ⟨Fr.weak af.fr, af.tabs, fun a e z => keep_pot af z⟩) im (Fp.back (Af.trans (Af.trans (Af.trans (Af.trans (Af.trans x1 x2) x3) x4) x5) x6).fr ⟨fun b hb => ((((((st.af x1).af x2).af x3).af x4).af x5).af x6).fresh_pot (hf b hb), fun _ => ⟨nd, hf⟩⟩)⟩
theorem re_calld7 {α1 α2 α3 α4 α5 α6 α7 R : Type} [Enc α1] [Enc α2] [Enc α3] [Enc α4] [Enc α5] [Enc α6] [Enc α7] [Enc R] {f : α1 → α2 → α3 → α4 → α5 → α6 → α7 → Nat → M R} {E : XK} {t1 : TE} {m1 : M α1} {b1 : Bool} (h1 : RE K T t1 ρ b1 m1) {t2 : TE} {m2 : M α2} {b2 : Bool} (h2 : RE K T t2 ρ b2 m2) {t3 : TE} {m3 : M α3} {b3 : Bool} (h3 : RE K T t3 ρ b3 m3) {t4 : TE} {m4 : M α4} {b4 : Bool} (h4 : RE K T t4 ρ b4 m4) {t5 : TE} {m5 : M α5} {b5 : Bool} (h5 : RE K T t5 ρ b5 m5) {t6 : TE} {m6 : M α6} {b6 : Bool} (h6 : RE K T t6 ρ b6 m6) {t7 : TE} {m7 : M α7} {b7 : Bool} (h7 : RE K T t7 ρ b7 m7) : RE K T (tCall (spW8 K T f) [.int 0] E (tCons t1 (tCons t2 (tCons t3 (tCons t4 (tCons t5 (tCons t6 (tCons t7 tNil)))))))) ρ true (c7W m1 m2 m3 m4 m5 m6 m7 fun a1 a2 a3 a4 a5 a6 a7 => pureW (f a1 a2 a3 a4 a5 a6 a7 0)) := fun Bs po φ σ H n st P p Q q =>
  h1 Bs po φ σ H n st _ p _ fun a1 n1 v1 H1 f1 p1 x1 i1 g1 =>
  h2 Bs po φ σ H1 n1 (st.af x1) _ p1 _ fun a2 n2 v2 H2 f2 p2 x2 i2 g2 =>
  h3 Bs po φ σ H2 n2 ((st.af x1).af x2) _ p2 _ fun a3 n3 v3 H3 f3 p3 x3 i3 g3 =>
  h4 Bs po φ σ H3 n3 (((st.af x1).af x2).af x3) _ p3 _ fun a4 n4 v4 H4 f4 p4 x4 i4 g4 =>
  h5 Bs po φ σ H4 n4 ((((st.af x1).af x2).af x3).af x4) _ p4 _ fun a5 n5 v5 H5 f5 p5 x5 i5 g5 =>
  h6 Bs po φ σ H5 n5 (((((st.af x1).af x2).af x3).af x4).af x5) _ p5 _ fun a6 n6 v6 H6 f6 p6 x6 i6 g6 =>
  h7 Bs po φ σ H6 n6 ((((((st.af x1).af x2).af x3).af x4).af x5).af x6) _ p6 _ fun a7 n7 v7 H7 f7 p7 x7 i7 g7 =>
  ⟨_, _, _, _, _, _, _, (0 : Nat), _, _, _, _, _, _, _, V.int 0, _, _, _, _, _, _, _, [], rfl, ⟨((((((i1.af g1.1 x2.fr).af g1.1 x3.fr).af g1.1 x4.fr).af g1.1 x5.fr).af g1.1 x6.fr).af g1.1 x7.fr), (((((i2.af g2.1 x3.fr).af g2.1 x4.fr).af g2.1 x5.fr).af g2.1 x6.fr).af g2.1 x7.fr), ((((i3.af g3.1 x4.fr).af g3.1 x5.fr).af g3.1 x6.fr).af g3.1 x7.fr), (((i4.af g4.1 x5.fr).af g4.1 x6.fr).af g4.1 x7.fr), ((i5.af g5.1 x6.fr).af g5.1 x7.fr), (i6.af g6.1 x7.fr), i7, Im.int _⟩, (((((((st.af x1).af x2).af x3).af x4).af x5).af x6).af x7).tabs, _, p7, fun r c v' H' fp pr af im nd hf => q r n7 v' H' fp pr (Af.trans (Af.trans (Af.trans (Af.trans (Af.trans (Af.trans (Af.trans x1 x2) x3) x4) x5) x6) x7) ⟨Fr.weak af.fr, af.tabs, fun a e z => keep_pot af z⟩) im (Fp.back (Af.trans (Af.trans (Af.trans (Af.trans (Af.trans (Af.trans x1 x2) x3) x4) x5) x6) x7).fr ⟨fun b hb => (((((((st.af x1).af x2).af x3).af x4).af x5).af x6).af x7).fresh_pot (hf b hb), fun _ => ⟨nd, hf⟩⟩)⟩
/-! ## bits -/
theorem re_bits {t : TE} {m : M Nat} {f : Bool} (h : RE K T t ρ f m) : RE K T (tBits t) ρ true (mapW lnF m) := fun Bs po φ σ H n st P p Q q => h Bs po φ σ H n st _ p _ fun k n1 v H1 fp pa a1 i1 g1 => by
  cases i1
  refine ⟨(k : Int), rfl, ?_⟩
  rw [bits_nat]
  exact q (lnF k) n1 _ H1 [] pa a1 (.int _) Fp.nil
/-- x & -x -/
theorem re_low {i : Nat} {k : Nat} (hi : ρ[i]? = some (.own (enc k))) : RE K T (tOp (rI0 fun i j => .int (Builtin.bitAnd i j)) (tVar i) (tUn (rU fun i => .int (-i)) (tVar i))) ρ true (reqW (k ≠ 0) (retW (2 ^ fpF k))) := fun Bs po φ σ H n st P p Q q => by
  obtain ⟨v, h1, h2, _⟩ := st.sl i _ hi
  generalize φ i = fp at h2
  cases h2
  refine ⟨_, h1, _, h1, (k : Int), rfl, (k : Int), -(k : Int), rfl, rfl, ?_⟩
  show Q (.int (Builtin.bitAnd (k : Int) (-(k : Int)))) H
  rw [and_neg p.1]
  exact q _ n _ H [] p.2 Af.refl (.int _) Fp.nil
/-! ## in lists of what may be None -/
def oV : Option Nat → V
  | none => .non
  | some n => .int (n : Int)
theorem ima_opts {H : Hp} : ∀ {xs : List (Option Nat)} {vs : List V} {fp : List Addr}, ImA K H vs (xs.map enc) fp → vs = xs.map oV
  | [], _, _, h => by cases h; rfl
  | x :: xs, _, _, h => by
    cases h with
    | cons a b q =>
      cases x with
      | none => cases a; rw [ima_opts b]; rfl
      | some x => cases a; rw [ima_opts b]; rfl
theorem in_opts (x : Option Nat) : ∀ xs : List (Option Nat), inV (oV x) (xs.map oV) = decide (x ∈ xs)
  | [] => rfl
  | y :: ys => by
    have ih := in_opts x ys
    unfold inV at ih ⊢
    rw [List.map_cons, List.any_cons, ih]
    have e : eqV (oV y) (oV x) = decide (x = y) := by
      cases x with
      | none => cases y <;> rfl
      | some x =>
        cases y with
        | none => rfl
        | some y =>
          show ((y : Int) == (x : Int)) = decide (some x = some y)
          by_cases z : x = y
          · subst z; simp
          · rw [decide_eq_false (fun h => z (Option.some.inj h))]
            exact beq_eq_false_iff_ne.mpr (by omega)
    rw [e]
    simp
theorem flat_opts (xs : List (Option Nat)) : (xs.map oV).all flatV = true := by
  rw [List.all_eq_true]
  intro v hv
  obtain ⟨o, _, rfl⟩ := List.mem_map.mp hv
  cases o <;> rfl
theorem im_oV {H : Hp} {v : V} {x : Option Nat} {fp : List Addr} (h : Im K H v (enc x) fp) : v = oV x := by
  cases x with
  | none => cases h; rfl
  | some x => cases h; rfl
theorem flat_oV (x : Option Nat) : flatV (oV x) = true := by cases x <;> rfl
theorem ow_inLO : OpW K (rIn K false) (fun (x : Option Nat) (xs : Lst (Option Nat)) => retW (decide (x ∈ xs.l))) := opw_pure fun x xs H v w fp fq i1 i2 n P p => by
  obtain rfl := im_oV i1
  obtain ⟨a, vs, _, rfl, hT, hA, _⟩ := im_lst i2
  obtain rfl := ima_opts hA
  exact ⟨_, _, p, .bl _, fun Q q => ⟨a, xs.l.map oV, rfl, .inl (.inl (.inl hT)), flat_oV x, flat_opts xs.l, by rw [in_opts]; exact q⟩⟩
theorem ow_ninLO : OpW K (rIn K true) (fun (x : Option Nat) (xs : Lst (Option Nat)) => retW (!decide (x ∈ xs.l))) := opw_pure fun x xs H v w fp fq i1 i2 n P p => by
  obtain rfl := im_oV i1
  obtain ⟨a, vs, _, rfl, hT, hA, _⟩ := im_lst i2
  obtain rfl := ima_opts hA
  exact ⟨_, _, p, .bl _, fun Q q => ⟨a, xs.l.map oV, rfl, .inl (.inl (.inl hT)), flat_oV x, flat_opts xs.l, by show Q (.bl (!inV _ _)) H; rw [in_opts]; exact q⟩⟩
theorem ow_inTO : OpW K (rIn K false) (fun (x : Option Nat) (xs : List (Option Nat)) => retW (decide (x ∈ xs))) := opw_pure fun x xs H v w fp fq i1 i2 n P p => by
  obtain rfl := im_oV i1
  obtain ⟨a, vs, rfl, hT, hA⟩ := im_tup i2
  obtain rfl := ima_opts hA
  exact ⟨_, _, p, .bl _, fun Q q => ⟨a, xs.map oV, rfl, .inr hT.q, flat_oV x, flat_opts xs, by rw [in_opts]; exact q⟩⟩
theorem ow_ninTO : OpW K (rIn K true) (fun (x : Option Nat) (xs : List (Option Nat)) => retW (!decide (x ∈ xs))) := opw_pure fun x xs H v w fp fq i1 i2 n P p => by
  obtain rfl := im_oV i1
  obtain ⟨a, vs, rfl, hT, hA⟩ := im_tup i2
  obtain rfl := ima_opts hA
  exact ⟨_, _, p, .bl _, fun Q q => ⟨a, xs.map oV, rfl, .inr hT.q, flat_oV x, flat_opts xs, by show Q (.bl (!inV _ _)) H; rw [in_opts]; exact q⟩⟩
/-! ## parts of pairs, threes, whatever is in them -/
theorem Fp.left {H : Hp} {po : Option Addr} {fr : Bool} {fp fq : List Addr} (h : Fp H po fr (fp ++ fq)) : Fp H po fr fp := ⟨fun b hb => h.1 b (List.mem_append_left _ hb), fun e => ⟨(List.nodup_append.mp (h.2 e).1).1, fun b hb => (h.2 e).2 b (List.mem_append_left _ hb)⟩⟩
theorem Fp.right {H : Hp} {po : Option Addr} {fr : Bool} {fp fq : List Addr} (h : Fp H po fr (fp ++ fq)) : Fp H po fr fq := ⟨fun b hb => h.1 b (List.mem_append_right _ hb), fun e => ⟨(List.nodup_append.mp (h.2 e).1).2.1, fun b hb => (h.2 e).2 b (List.mem_append_right _ hb)⟩⟩
theorem re_p1 {t : TE} {f : Bool} {m : M (α × β)} (h : RE K T t ρ f m) : RE K T (tOp (L2.rIxT K) t (tC (.int 0))) ρ f (mapW Prod.fst m) := fun Bs po φ σ H n st P p Q q => h Bs po φ σ H n st _ p _ fun x n1 v H1 fp pa a1 i1 g1 => by
  cases i1 with
  | tup e b =>
    obtain ⟨v1, v2, f1, f2, rfl, h1, h2, rfl⟩ := ima2 b
    exact ⟨_, _, _, _, rfl, rfl, e.q, rfl, q _ n1 _ H1 _ pa a1 h1 g1.left⟩
theorem re_p2 {t : TE} {f : Bool} {m : M (α × β)} (h : RE K T t ρ f m) : RE K T (tOp (L2.rIxT K) t (tC (.int 1))) ρ f (mapW Prod.snd m) := fun Bs po φ σ H n st P p Q q => h Bs po φ σ H n st _ p _ fun x n1 v H1 fp pa a1 i1 g1 => by
  cases i1 with
  | tup e b =>
    obtain ⟨v1, v2, f1, f2, rfl, h1, h2, rfl⟩ := ima2 b
    exact ⟨_, _, _, _, rfl, rfl, e.q, rfl, q _ n1 _ H1 _ pa a1 h2 g1.right⟩
theorem re_t31 {t : TE} {f : Bool} {m : M (T3 α β γ)} (h : RE K T t ρ f m) : RE K T (tOp (L2.rIxT K) t (tC (.int 0))) ρ f (mapW T3.a m) := fun Bs po φ σ H n st P p Q q => h Bs po φ σ H n st _ p _ fun x n1 v H1 fp pa a1 i1 g1 => by
  cases i1 with
  | tup e b =>
    obtain ⟨v1, v2, v3, f1, f2, f3, rfl, h1, h2, h3, rfl⟩ := ima3 b
    exact ⟨_, _, _, _, rfl, rfl, e.q, rfl, q _ n1 _ H1 _ pa a1 h1 g1.left⟩
theorem re_t32 {t : TE} {f : Bool} {m : M (T3 α β γ)} (h : RE K T t ρ f m) : RE K T (tOp (L2.rIxT K) t (tC (.int 1))) ρ f (mapW T3.b m) := fun Bs po φ σ H n st P p Q q => h Bs po φ σ H n st _ p _ fun x n1 v H1 fp pa a1 i1 g1 => by
  cases i1 with
  | tup e b =>
    obtain ⟨v1, v2, v3, f1, f2, f3, rfl, h1, h2, h3, rfl⟩ := ima3 b
    exact ⟨_, _, _, _, rfl, rfl, e.q, rfl, q _ n1 _ H1 _ pa a1 h2 g1.right.left⟩
theorem re_t33 {t : TE} {f : Bool} {m : M (T3 α β γ)} (h : RE K T t ρ f m) : RE K T (tOp (L2.rIxT K) t (tC (.int 2))) ρ f (mapW T3.c m) := fun Bs po φ σ H n st P p Q q => h Bs po φ σ H n st _ p _ fun x n1 v H1 fp pa a1 i1 g1 => by
  cases i1 with
  | tup e b =>
    obtain ⟨v1, v2, v3, f1, f2, f3, rfl, h1, h2, h3, rfl⟩ := ima3 b
    exact ⟨_, _, _, _, rfl, rfl, e.q, rfl, q _ n1 _ H1 _ pa a1 h3 g1.right.right⟩
/-! ## sorted(set(..)) of numbers -/
def ndp : List Nat → List Nat
  | [] => []
  | x :: xs => if x ∈ ndp xs then ndp xs else x :: ndp xs
theorem ndp_mem : ∀ (xs : List Nat) (z : Nat), z ∈ ndp xs ↔ z ∈ xs
  | [], z => Iff.rfl
  | x :: xs, z => by
    have ih := ndp_mem xs z
    unfold ndp
    by_cases h : x ∈ ndp xs
    · rw [if_pos h, ih, List.mem_cons]
      constructor
      · exact .inr
      · rintro (rfl | e)
        · exact ih.mp h
        · exact e
    · rw [if_neg h, List.mem_cons, ih, List.mem_cons]
theorem ndp_nodup : ∀ xs : List Nat, (ndp xs).Nodup
  | [] => List.nodup_nil
  | x :: xs => by
    have ih := ndp_nodup xs
    unfold ndp
    by_cases h : x ∈ ndp xs
    · rw [if_pos h]; exact ih
    · rw [if_neg h]; exact List.nodup_cons.mpr ⟨h, ih⟩
def ddN (xs : List Nat) : List Nat := sortN (ndp xs)
theorem cast_mem {k : Int} {L : List Nat} : (k ∈ L.map fun (n : Nat) => (n : Int)) ↔ ∃ n ∈ L, (n : Int) = k := by
  rw [List.mem_map]
theorem sorted_eq {xs ys : List Nat} (h1 : xs.Pairwise (· < ·)) (h2 : ys.Pairwise (· < ·)) (h : ∀ z, z ∈ xs ↔ z ∈ ys) : xs = ys := uniq_sorted (key := fun n : Nat => (n : Int)) (h1.imp fun {a b} h => by omega) (h2.imp fun {a b} h => by omega) h
/-- rising, each once -/
theorem dd_rise (xs : List Nat) : (ddN xs).Pairwise (· < ·) ∧ ∀ z, z ∈ ddN xs ↔ z ∈ xs := by
  have h1 : (ddN xs).Pairwise (· ≤ ·) := by
    have := List.pairwise_mergeSort (le := fun a b : Nat => decide (a ≤ b)) (fun a b c h1 h2 => by simp at *; omega) (fun a b => by simp; omega) (ndp xs)
    exact this.imp fun h => of_decide_eq_true h
  have h2 : (ddN xs).Perm (ndp xs) := List.mergeSort_perm _ _
  have h3 : (ddN xs).Nodup := h2.nodup_iff.mpr (ndp_nodup xs)
  refine ⟨?_, fun z => by rw [h2.mem_iff, ndp_mem]⟩
  exact (List.Pairwise.and h1 h3).imp fun {a b} h => by have := h.1; have := h.2; omega
theorem re_setsort {w : World} {t : TE} {m : M (Lst Nat)} {f : Bool} (h : RE K T t ρ f m) : RE K T (tCB (rSortedSet w) (tCons (tCB (rSetL K w) (tCons t tNil)) tNil)) ρ true (bindW m fun xs => reqW (xs.l.length < 64) (retW (⟨ddN xs.l⟩ : Lst Nat))) := fun Bs po φ σ H n st P p Q q => h Bs po φ σ H n st _ p _ fun xs n1 v H1 fp pa a1 i1 g1 => by
  obtain ⟨a, rfl, hT⟩ := im_nvL i1
  refine ⟨a, xs.l.map fun (n : Nat) => (n : Int), rfl, by rw [← nv_map]; exact .inl (.inl hT), by rw [List.length_map]; have := pa.1; omega, fun b c nb hc => ?_⟩
  rw [List.length_map] at hc
  refine ⟨b, _, c, rfl, upd_same, by have := pa.1; omega, fun ns p hpw hmem _ np => ?_⟩
  obtain ⟨zs, rfl, h1, h2⟩ := set_rise hpw hmem
  have e : zs = ddN xs.l := sorted_eq h1 (dd_rise _).1 fun z => by rw [h2, (dd_rise _).2]
  rw [← nv_map, e]
  have s := same_new (same_new (Same.refl H1) nb (o := SetO w b (fun j => decide (j ∈ xs.l.map fun (n : Nat) => (n : Int))) c)) np (o := .lst (nv (ddN xs.l)))
  have hp1 : H1 p = none := by
    cases z : H1 p with
    | none => rfl
    | some o =>
      have := same_new (Same.refl H1) nb (o := SetO w b (fun j => decide (j ∈ xs.l.map fun (n : Nat) => (n : Int))) c) p o z
      rw [np] at this
      cases this
  exact q _ n1 _ _ [p] pa.2 (a1.trans (Af.same s)) (nv_imL upd_same) (Fp.back a1.fr (fp_new (st.af a1) ⟨List.nodup_cons.mpr ⟨List.not_mem_nil, List.nodup_nil⟩, fun x hx => by rw [List.mem_singleton.mp hx]; exact hp1⟩))
theorem re_setsortT {w : World} {t : TE} {m : M (List Nat)} {f : Bool} (h : RE K T t ρ f m) : RE K T (tCB (rSortedSet w) (tCons (tCB (rSetU K w) (tCons t tNil)) tNil)) ρ true (bindW m fun xs => reqW (xs.length < 64) (retW (⟨ddN xs⟩ : Lst Nat))) := fun Bs po φ σ H n st P p Q q => h Bs po φ σ H n st _ p _ fun xs n1 v H1 fp pa a1 i1 g1 => by
  obtain ⟨a, rfl, hT⟩ := im_nv i1
  refine ⟨a, xs.map fun (n : Nat) => (n : Int), rfl, by rw [← nv_map]; exact hT.q, by rw [List.length_map]; have := pa.1; omega, fun b c nb hc => ?_⟩
  rw [List.length_map] at hc
  refine ⟨b, _, c, rfl, upd_same, by have := pa.1; omega, fun ns p hpw hmem _ np => ?_⟩
  obtain ⟨zs, rfl, h1, h2⟩ := set_rise hpw hmem
  have e : zs = ddN xs := sorted_eq h1 (dd_rise _).1 fun z => by rw [h2, (dd_rise _).2]
  rw [← nv_map, e]
  have s := same_new (same_new (Same.refl H1) nb (o := SetO w b (fun j => decide (j ∈ xs.map fun (n : Nat) => (n : Int))) c)) np (o := .lst (nv (ddN xs)))
  have hp1 : H1 p = none := by
    cases z : H1 p with
    | none => rfl
    | some o =>
      have := same_new (Same.refl H1) nb (o := SetO w b (fun j => decide (j ∈ xs.map fun (n : Nat) => (n : Int))) c) p o z
      rw [np] at this
      cases this
  exact q _ n1 _ _ [p] pa.2 (a1.trans (Af.same s)) (nv_imL upd_same) (Fp.back a1.fr (fp_new (st.af a1) ⟨List.nodup_cons.mpr ⟨List.not_mem_nil, List.nodup_nil⟩, fun x hx => by rw [List.mem_singleton.mp hx]; exact hp1⟩))
end
def ofTW {α : Type} (xs : List α) : M α := fun n P => (0 < xs.length ∧ xs.length < 1073741824 ∧ n < 100000) ∧ ∀ x, x ∈ xs → P x (n + 1)
/-! ## round_bits by what is known of it -/
def rbdW (q h j : Nat) : M (List Nat) := fun n P => (0 < q ∧ q ≤ 60 ∧ h < 2 ^ q) ∧ P (rb q h j) n
end Bf
namespace Bf
open PySem PySem.Spec PyProof.Rows L2 LamX NdefX
/-! ## heaps that change at one list -/
structure AfX (K : PySem.W.Frag) (T : List (Addr × Str)) (D : Addr) (po : Option Addr) (H : Hp) (n : Nat) (H' : Hp) (n' : Nat) : Prop where
  keep : ∀ b o, b ≠ D → po ≠ some b → H b = some o → (∀ ps, o ≠ .tbl ps) → H' b = some o
  tup : ∀ b xs, TupR H b xs → TupR H' b xs
  tabs : Tabs T H → Tabs T H'
  pot : ∀ a, po = some a → Pot H a n → Pot H' a n'
section
variable {K : PySem.W.Frag} {T : List (Addr × Str)} {D : Addr} {po : Option Addr} {H H1 H' : Hp} {n n1 n' : Nat}
theorem AfX.of (a : Af K T po H n H' n') : AfX K T D po H n H' n' := ⟨fun b o _ h1 h2 h3 => a.fr.keep b o h1 h2 h3, a.fr.tup, a.tabs, a.pot⟩
theorem AfX.refl : AfX K T D po H n H n := AfX.of Af.refl
theorem AfX.trans (x : AfX K T D po H n H1 n1) (y : AfX K T D po H1 n1 H' n') : AfX K T D po H n H' n' := ⟨fun b o h0 h1 h2 h3 => y.keep b o h0 h1 (x.keep b o h0 h1 h2 h3) h3, fun b xs h => y.tup b xs (x.tup b xs h), fun t => y.tabs (x.tabs t), fun a e p => y.pot a e (x.pot a e p)⟩
theorem AfX.write {l l' : List V} (hp : po ≠ some D) (e : H D = some (.lst l)) : AfX K T D po H n (upd H D (.lst l')) n := by
  refine ⟨fun b o h0 _ h2 _ => by rw [upd_ne h0]; exact h2, fun b xs h => ?_, fun t => tabs_upd t e, fun a ea p => ?_⟩
  · unfold TupR at h ⊢
    rw [upd_ne (fun z => by rw [z, e] at h; cases h)]
    exact h
  · obtain ⟨x, y, z, hH, hh⟩ := p
    exact ⟨x, y, z, by rw [upd_ne (fun w => hp (by rw [← w]; exact ea))]; exact hH, hh⟩
/-- D is new -/
theorem Af.transX (x : Af K T po H n H1 n1) (nD : H D = none) (y : AfX K T D po H1 n1 H' n') : Af K T po H n H' n' := ⟨⟨fun b o h1 h2 h3 => y.keep b o (fun z => by rw [z, nD] at h2; cases h2) h1 (x.fr.keep b o h1 h2 h3) h3, fun b xs h => y.tup b xs (x.fr.tup b xs h)⟩, fun t => y.tabs (x.tabs t), fun a e p => y.pot a e (x.pot a e p)⟩
theorem Im.afX {v : V} {d : PyData} {fp : List Addr} (h : Im K H v d fp) (hp : ∀ b ∈ fp, b ≠ D ∧ po ≠ some b) (y : AfX K T D po H n H' n') : Im K H' v d fp := Im.stab y.tup d v fp h fun b hb o e m => y.keep b _ (hp b hb).1 (hp b hb).2 e m.tbl
theorem ImA.afX {vs : List V} {ds : List PyData} {fp : List Addr} (h : ImA K H vs ds fp) (hp : ∀ b ∈ fp, b ≠ D ∧ po ≠ some b) (y : AfX K T D po H n H' n') : ImA K H' vs ds fp := ImA.stab y.tup ds vs fp h fun b hb o e m => y.keep b _ (hp b hb).1 (hp b hb).2 e m.tbl
theorem ST.afX {Bs : Addr → HO → Prop} {ρ : List Sl} {φ : Nat → List Addr} {σ : L2.St} {l : List V} (h : ST K T Bs po ρ φ σ H n) (o : Out D ρ φ) (hB : ∀ u, ¬ Bs D u) (e : H D = some (.lst l)) (y : AfX K T D po H n H' n') : ST K T Bs po ρ φ σ H' n' where
  tabs := y.tabs h.tabs
  base := fun b u z => by
    obtain ⟨h1, h2, h3⟩ := h.base b u z
    exact ⟨y.keep b u (fun q => hB u (by rw [← q]; exact z)) h3 h1 h2, h2, h3⟩
  pot := fun p ep => y.pot p ep (h.pot p ep)
  len := h.len
  sl := fun i s es => by
    have z := h.sl i s es
    cases s with
    | any => trivial
    | pot => exact z
    | scr ns => exact z
    | borA v' fq d => exact ⟨z.1, z.2.1.afX (fun b hb => ⟨fun q => (by obtain ⟨o, ho⟩ := (z.2.2 b hb).2; exact hB o (by rw [← q]; exact ho)), (z.2.2 b hb).1⟩) y, z.2.2⟩
    | lkd d =>
      obtain ⟨a, od, u, z1, z2, z3, z4⟩ := z
      refine ⟨a, od, u, z1, z2, y.keep a _ (fun q => by rw [q, e] at z3; cases z3) z2 z3 (fun ps w => nomatch w), ?_⟩
      rcases z4 with ⟨kvs, ps, y1, y2, y3, y4⟩ | ⟨kvs, ps, y1, y2, y3, y4⟩
      · exact .inl ⟨kvs, ps, y1, y2, y3, ImA.stab y.tup _ _ _ y4 fun b hb => absurd hb List.not_mem_nil⟩
      · exact .inr ⟨kvs, ps, y1, y2, y3, ImA.stab y.tup _ _ _ y4 fun b hb => absurd hb List.not_mem_nil⟩
    | bor d =>
      obtain ⟨v, z1, z2, z3⟩ := z
      exact ⟨v, z1, z2.afX (fun b hb => ⟨fun q => o i d (.inr es) (by rw [← q]; exact hb), (z3 b hb).1⟩) y, z3⟩
    | own d =>
      obtain ⟨v, z1, z2, z3, z4⟩ := z
      exact ⟨v, z1, z2.afX (fun b hb => ⟨fun q => o i d (.inl es) (by rw [← q]; exact hb), (z4 b hb).1⟩) y, z3, z4⟩
  dis := h.dis
end
/-- a walk, whatever is done in it -/
theorem walk_W {J : It} {n : Nat} {G : Hp → Prop} {Y : Nat → Hp → V → Hp → Prop} (w : Walk J n G Y) {H0 : Hp} {Body : V → Hp → (Hp → Prop) → Prop} {Qd : Hp → Prop} (Pv : Nat → Hp → Prop) (h0 : Pv 0 H0) (hG : ∀ i H, i ≤ n → Pv i H → G H) (hs : ∀ i x H H', i < n → Pv i H → Y i H x H' → Body x H' (Pv (i + 1))) (hd : ∀ H, Pv n H → Qd H) :
    ∃ W : Nat → Nat → Hp → Prop, (∃ m, W 0 m H0) ∧ ∀ i m H, W i m H → (J.stop i H ∧ Qd H) ∨ (J.go i H ∧ ∃ Nx : Hp → Prop, (∀ H', Nx H' → ∃ m', m' < m ∧ W (i + 1) m' H') ∧ ∀ x H', J.yld i H x H' → Body x H' Nx) := by
  refine ⟨fun i m H => i + m = n ∧ Pv i H, ⟨n, Nat.zero_add _, h0⟩, ?_⟩
  rintro i m H ⟨e, p⟩
  have g := hG i H (by omega) p
  cases m with
  | zero =>
    have e2 : i = n := e
    subst e2
    exact .inl ⟨w.stops H g, hd H p⟩
  | succ m =>
    refine .inr ⟨w.goes i H (by omega) g, Pv (i + 1), fun H' p' => ⟨m, Nat.lt_succ_self m, by omega, p'⟩, fun x H' y => ?_⟩
    exact hs i x H H' (by omega) p (w.yields i H x H' (by omega) g y)
section
variable {α β γ : Type}
def lc2W0 (mt : α → M Bool) (mi2 : α → M (List β)) (mt2 : α → β → M Bool) (me : α → β → M γ) : List α → List γ → M (Lst γ)
  | [], acc => retW ⟨acc⟩
  | x :: xs, acc => bindW (mt x) fun b => if b = true then bindW (mi2 x) fun ys => reqW (acc.length + ys.length ≤ sizeLine) (bindW (lcW (mt2 x) (me x) ys acc) fun r => lc2W0 mt mi2 mt2 me xs r.l) else lc2W0 mt mi2 mt2 me xs acc
theorem lc2W_ex (mt : α → M Bool) (mi2 : α → M (List β)) (mt2 : α → β → M Bool) (me : α → β → M γ) : ∃ g : List α → List γ → M (Lst γ), (∀ acc, g [] acc = retW ⟨acc⟩) ∧ ∀ x xs acc, g (x :: xs) acc = bindW (mt x) fun b => if b = true then bindW (mi2 x) fun ys => reqW (acc.length + ys.length ≤ sizeLine) (bindW (lcW (mt2 x) (me x) ys acc) fun r => g xs r.l) else g xs acc := ⟨lc2W0 mt mi2 mt2 me, fun _ => rfl, fun _ _ _ => rfl⟩
/-- sealed -/
noncomputable def lc2W (mt : α → M Bool) (mi2 : α → M (List β)) (mt2 : α → β → M Bool) (me : α → β → M γ) : List α → List γ → M (Lst γ) := Classical.choose (lc2W_ex mt mi2 mt2 me)
theorem lc2W_nil {mt : α → M Bool} {mi2 : α → M (List β)} {mt2 : α → β → M Bool} {me : α → β → M γ} {acc : List γ} : lc2W mt mi2 mt2 me [] acc = retW ⟨acc⟩ := (Classical.choose_spec (lc2W_ex mt mi2 mt2 me)).1 acc
theorem lc2W_cons {mt : α → M Bool} {mi2 : α → M (List β)} {mt2 : α → β → M Bool} {me : α → β → M γ} {x : α} {xs : List α} {acc : List γ} : lc2W mt mi2 mt2 me (x :: xs) acc = bindW (mt x) fun b => if b = true then bindW (mi2 x) fun ys => reqW (acc.length + ys.length ≤ sizeLine) (bindW (lcW (mt2 x) (me x) ys acc) fun r => lc2W mt mi2 mt2 me xs r.l) else lc2W mt mi2 mt2 me xs acc := (Classical.choose_spec (lc2W_ex mt mi2 mt2 me)).2 x xs acc
end
section
variable {K : PySem.W.Frag} {T : List (Addr × Str)} {ρ : List Sl}
variable {α β γ δ : Type} [Enc α] [Enc β] [Enc γ] [Enc δ]
theorem drop_at {α : Type} {xs : List α} {i : Nat} {a : α} (hi : i < xs.length) (ha : xs[i]? = some a) : xs.drop i = a :: xs.drop (i + 1) := by
  rw [List.drop_eq_getElem_cons hi]
  congr 1
  exact Option.some.inj ((List.getElem?_eq_getElem hi).symm.trans ha)
theorem re_lc2 [Pu γ] {wi wi1 : TI} {g g1 : TG} {tt tt1 : TT} {te : TE} {vs vs1 ts ts1 : List Nat} {mi : M (List α)} {mt : α → M Bool} {mi2 : α → M (List β)} {mt2 : α → β → M Bool} {me : α → β → M γ} {ρw : List Sl} {ρx ρv : α → List Sl} {ρy : α → β → List Sl} {f : Bool}
    (hw : wipeR ρ vs = ρw) (hi : RI K T wi ρ mi) (hts : ∀ t ∈ ts, t ∈ vs) (hg : ∀ a, RG K T ts g a ρw (ρx a)) (ht : ∀ a, RT K T tt (ρx a) (mt a)) (hi2 : ∀ a, RI K T wi1 (ρx a) (mi2 a)) (hw1 : ∀ a, wipeR (ρx a) vs1 = ρv a) (hts1 : ∀ t ∈ ts1, t ∈ vs1) (hg1 : ∀ a b, RG K T ts1 g1 b (ρv a) (ρy a b))
    (ht1 : ∀ a b, RT K T tt1 (ρy a b) (mt2 a b)) (he : ∀ a b, RE K T te (ρy a b) f (me a b)) : RE K T (tLc2 wi g tt wi1 g1 tt1 te vs vs1) ρ true (bindW mi fun xs => lc2W mt mi2 mt2 me xs []) := fun Bs po φ σ H n st P p Q q =>
  hi Bs po φ σ H n st _ p _ fun xs n1 J H1 fi pa a1 ok hfp hfi D nD => by
    subst hw
    obtain ⟨⟨G, Y, w, g0, gs, gy⟩, hlst⟩ := ok
    have st1 := st.af a1
    have hDp : po ≠ some D := st1.fresh_pot fun o e => by rw [nD] at e; cases e
    have hDB : ∀ u, ¬ Bs D u := st1.fresh_bs fun o e => by rw [nD] at e; cases e
    have out1 : Out D ρ φ := Out.new st1 nD
    have sD : Same H1 (upd H1 D (.lst [])) := same_new (Same.refl H1) nD
    have hfD : ∀ b ∈ fi, b ≠ D := fun b hb e => by
      obtain ⟨l, hl⟩ := hlst b hb
      rw [e, nD] at hl
      cases hl
    -- what is gone through outside stands
    have keepG : ∀ HA HC nA, Af K T po H1 n1 HA nA → G HA → (∀ b ∈ fi, ∀ l, HA b = some (.lst l) → HC b = some (.lst l)) → (∀ b l, TupR HA b l → TupR HC b l) → G HC := fun HA HC nA afA gA' h1 h2 => gs HA HC h1 h2 (fun b hb => by
      obtain ⟨l, hl⟩ := hlst b hb
      exact ⟨l, hl, afA.fr.keep b _ (hfp b hb) hl fun ps z => nomatch z⟩) gA'
    refine walk_W w (fun i H' => ∃ (n' : Nat) (acc : List γ) (vs' : List V), Af K T po H1 n1 H' n' ∧ G H' ∧ H' D = some (.lst vs') ∧ ImA K H' vs' (acc.map enc) [] ∧ lc2W mt mi2 mt2 me (xs.drop i) acc n' P) ⟨n1, [], [], Af.same sD, gs H1 _ (fun b hb l e => sD b _ e) (fun b l e => sD _ _ e) (fun b hb => (by obtain ⟨l, hl⟩ := hlst b hb; exact ⟨l, hl, hl⟩)) g0, upd_same, .nil, by rw [List.drop_zero]; exact pa⟩ (fun i H' _ z => by obtain ⟨_, _, _, _, z, _⟩ := z; exact z) ?_ ?_
    · rintro i x HA HB hi' ⟨n', acc, vs', af, gA, eD, hA, pl⟩ hy
      obtain ⟨a, ha, sAB, imx⟩ := gy i HA x HB hi' gA hy
      have afB := af.trans (Af.same sAB)
      have stB := (st1.af afB).wipe vs
      rw [drop_at hi' ha, lc2W_cons] at pl
      refine hg a Bs po φ (L2.wipe σ vs) HB n' stB x [] imx List.nodup_nil (fun b hb => absurd hb List.not_mem_nil) _ fun σ' φ' stx hwp hout => ⟨(hwp vs hts).trans (wipe_wipe vs), ?_⟩
      have outx : Out D (ρx a) φ' := hout D (out1.wipe vs) List.not_mem_nil
      refine ht a Bs po φ' σ' HB n' stx _ pl _ fun b n2 HC pb a2 => ?_
      have eDB := sAB _ _ eD
      have eDC := a2.fr.keep D _ hDp eDB fun ps z => nomatch z
      have gC : G HC := keepG HA HC n' af gA (fun b hb l e => a2.fr.keep b _ (hfp b hb) (sAB _ _ e) fun ps z => nomatch z) fun b l e => a2.fr.tup b l (sAB _ _ e)
      have hAC := (hA.same sAB).af (po := po) (fun b hb => absurd hb List.not_mem_nil) a2.fr
      cases b with
      | false => exact (if_neg (by decide)).mpr ⟨n2, acc, vs', afB.trans a2, gC, eDC, hAC, pb⟩
      | true =>
        refine (if_pos rfl).mpr ?_
        have stC := stx.af a2
        refine hi2 a Bs po φ' σ' HC n2 stC _ pb _ fun ys n3 J1 H4 fi2 pc a3 ok1 hfp2 hfi2 => ?_
        obtain ⟨⟨G1, Y1, w1, g01, gs1, gy1⟩, hlst1⟩ := ok1
        have eD4 := a3.fr.keep D _ hDp eDC fun ps z => nomatch z
        have hA4 := hAC.af (po := po) (fun b hb => absurd hb List.not_mem_nil) a3.fr
        have st4 := stC.af a3
        have af4 := (afB.trans a2).trans a3
        have g4 : G H4 := keepG HC H4 n2 (afB.trans a2) gC (fun b hb l e => a3.fr.keep b _ (hfp b hb) e fun ps z => nomatch z) fun b l e => a3.fr.tup b l e
        have hfD2 : ∀ b ∈ fi2, b ≠ D := fun b hb e => by
          rcases hfi2 b hb with ⟨o, ho⟩ | hf
          · exact hDB o (by rw [← e]; exact ho)
          · obtain ⟨ps, z⟩ := hf _ (by rw [e]; exact eDC)
            cases z
        refine walk_W w1 (fun j H' => ∃ (n' : Nat) (acc' : List γ) (vs'' : List V), AfX K T D po H4 n3 H' n' ∧ G H' ∧ G1 H' ∧ H' D = some (.lst vs'') ∧ ImA K H' vs'' (acc'.map enc) [] ∧ acc'.length ≤ acc.length + j ∧ lcW (mt2 a) (me a) (ys.drop j) acc' n' (fun r n => lc2W mt mi2 mt2 me (xs.drop (i + 1)) r.l n P)) ⟨n3, acc, vs', AfX.refl, g4, g01, eD4, hA4, Nat.le_refl _, by rw [List.drop_zero]; exact pc.2⟩ (fun i H' _ z => by obtain ⟨_, _, _, _, _, z, _⟩ := z; exact z) ?_ ?_
        · rintro j y H5 H6 hj ⟨n5, acc5, vs5, ax5, g5, g15, eD5, hA5, hl5, pl5⟩ hy1
          obtain ⟨b, hb, s56, imy⟩ := gy1 j H5 y H6 hj g15 hy1
          have ax6 := ax5.trans (AfX.of (Af.same s56))
          have st6 := (st4.afX outx hDB eD4 ax6).wipe vs1
          rw [hw1 a] at st6
          have out6 : Out D (ρv a) φ' := by rw [← hw1 a]; exact outx.wipe vs1
          rw [drop_at hj hb, lcW_cons] at pl5
          refine hg1 a b Bs po φ' (L2.wipe σ' vs1) H6 n5 st6 y [] imy List.nodup_nil (fun b hb => absurd hb List.not_mem_nil) _ fun σ3 φ3 st3 hwp3 hout3 => ⟨(hwp3 vs1 hts1).trans (wipe_wipe vs1), ?_⟩
          refine ht1 a b Bs po φ3 σ3 H6 n5 st3 _ pl5 _ fun c n6 H7 pb7 a7 => ?_
          have eD7 := a7.fr.keep D _ hDp (s56 _ _ eD5) fun ps z => nomatch z
          have ax7 := ax6.trans (AfX.of a7)
          have hA7 := (hA5.same s56).af (po := po) (fun b hb => absurd hb List.not_mem_nil) a7.fr
          have keep1 : ∀ HC, (∀ b ∈ fi2, ∀ l, H5 b = some (.lst l) → HC b = some (.lst l)) → (∀ b l, TupR H5 b l → TupR HC b l) → G1 HC := fun HC h1 h2 => gs1 H5 HC h1 h2 (fun b hb => by
            obtain ⟨l, hl⟩ := hlst1 b hb
            exact ⟨l, hl, ax5.keep b _ (hfD2 b hb) (hfp2 b hb) hl fun ps z => nomatch z⟩) g15
          have g7 : G H7 := keepG H5 H7 n5 (af4.transX nD ax5) g5 (fun b hb l e => a7.fr.keep b _ (hfp b hb) (s56 _ _ e) fun ps z => nomatch z) fun b l e => a7.fr.tup b l (s56 _ _ e)
          have g17 : G1 H7 := keep1 H7 (fun b hb l e => a7.fr.keep b _ (hfp2 b hb) (s56 _ _ e) fun ps z => nomatch z) fun b l e => a7.fr.tup b l (s56 _ _ e)
          cases c with
          | false => exact (if_neg (by decide)).mpr ⟨n6, acc5, vs5, ax7, g7, g17, eD7, hA7, by omega, pb7⟩
          | true =>
            refine (if_pos rfl).mpr (he a b Bs po φ3 σ3 H7 n6 (st3.af a7) _ pb7 _ fun u n8 v8 H8 fp8 pe8 a8 iu gu => ?_)
            have eD8 := a8.fr.keep D _ hDp eD7 fun ps z => nomatch z
            have z := Pu.pu iu
            subst z
            have hA8 := hA7.af (po := po) (fun b hb => absurd hb List.not_mem_nil) a8.fr
            have hl := hA5.len
            rw [List.length_map] at hl
            have wr := AfX.write (K := K) (T := T) (n := n8) (l' := vs5 ++ [v8]) hDp eD8
            have ax9 := (ax7.trans (AfX.of a8)).trans wr
            refine ⟨vs5, eD8, by rw [hl]; have := pc.1; omega, n8, acc5 ++ [u], vs5 ++ [v8], ax9, ?_, ?_, upd_same, ?_, by rw [List.length_append, List.length_singleton]; omega, pe8⟩
            · refine keepG H7 _ n6 (af4.transX nD ax7) g7 (fun b hb l e => ?_) fun b l e => wr.tup b l (a8.fr.tup b l e)
              rw [upd_ne (hfD b hb)]
              exact a8.fr.keep b _ (hfp b hb) e fun ps z => nomatch z
            · refine keep1 _ (fun b hb l e => ?_) fun b l e => wr.tup b l (a8.fr.tup b l (a7.fr.tup b l (s56 _ _ e)))
              rw [upd_ne (hfD2 b hb)]
              exact a8.fr.keep b _ (hfp2 b hb) (a7.fr.keep b _ (hfp2 b hb) (s56 _ _ e) fun ps z => nomatch z) fun ps z => nomatch z
            · rw [List.map_append]
              exact ImA.stab wr.tup _ _ _ (hA8.app (.cons iu .nil rfl)) fun b hb => absurd hb List.not_mem_nil
        · rintro H5 ⟨n5, acc5, vs5, ax5, g5, _, eD5, hA5, hl5, pl5⟩
          rw [List.drop_length, lcW_nil] at pl5
          exact ⟨n5, acc5, vs5, af4.transX nD ax5, g5, eD5, hA5, pl5⟩
    · rintro HA ⟨n', acc, vs', af, gA, eD, hA, pl⟩
      rw [List.drop_length, lc2W_nil] at pl
      exact q ⟨acc⟩ n' _ HA [D] pl (a1.trans af) (.lst eD hA rfl) (Fp.back a1.fr (fp_new st1 ⟨List.nodup_cons.mpr ⟨List.not_mem_nil, List.nodup_nil⟩, fun x hx => by rw [List.mem_singleton.mp hx]; exact nD⟩))
end
section
variable {K : PySem.W.Frag} {T : List (Addr × Str)} {ρ : List Sl}
variable {α β γ δ : Type} [Enc α] [Enc β] [Enc γ] [Enc δ]
variable {B S : Type} {C : Option Addr → Prop} {ρn : S → List Sl} {ρb : B → List Sl}
/-- return (xs, ys, zs), own ones -/
theorem rb_retv3 {tu : TS} {i j k : Nat} {a : α} {b : β} {c : γ} (hi : ρ[i]? = some (.own (enc a))) (hj : ρ[j]? = some (.own (enc b))) (hk : ρ[k]? = some (.own (enc c))) (hij : i ≠ j) (hik : i ≠ k) (hjk : j ≠ k) :
    RB K T C (tSeq (tRet (tTup (tCons (tVar i) (tCons (tVar j) (tCons (tVar k) tNil))))) tu) ρ (retW (.ret (⟨a, b, c⟩ : T3 α β γ))) ρn ρb := fun Bs po hC σ H n ⟨φ, st⟩ P p D h1 h2 h3 => by
  obtain ⟨v1, x1, y1, z1, w1⟩ := st.sl i _ hi
  obtain ⟨v2, x2, y2, z2, w2⟩ := st.sl j _ hj
  obtain ⟨v3, x3, y3, z3, w3⟩ := st.sl k _ hk
  refine ⟨v1, x1, v2, x2, v3, x3, by show 3 ≤ sizeLine; decide, fun t nt => ?_⟩
  have s := same_new (Same.refl H) nt (o := .tup [v1, v2, v3])
  have st1 := st.af (Af.same s (n := n))
  refine h3 _ n _ _ (φ i ++ (φ j ++ φ k)) p st1.tabs (fun b o z => (st1.base b o z).1) st1.pot (fun b xs h => s _ _ h) (.tup upd_same (.cons (y1.same s) (.cons (y2.same s) (.cons (y3.same s) .nil (List.append_nil _).symm) rfl) rfl)) ?_ ?_
  · exact nodup_app z1 (nodup_app z2 z3 (st.dis j k _ _ hjk hj hk)) fun x hx hy => (List.mem_append.mp hy).elim (st.dis i j _ _ hij hi hj x hx) (st.dis i k _ _ hik hi hk x hx)
  · intro b hb
    rcases List.mem_append.mp hb with hb | hb
    · exact w1 b hb
    · rcases List.mem_append.mp hb with hb | hb
      · exact w2 b hb
      · exact w3 b hb
theorem rb_retv2 {tu : TS} {i j : Nat} {a : α} {b : β} (hi : ρ[i]? = some (.own (enc a))) (hj : ρ[j]? = some (.own (enc b))) (hij : i ≠ j) :
    RB K T C (tSeq (tRet (tTup (tCons (tVar i) (tCons (tVar j) tNil)))) tu) ρ (retW (.ret ((a, b) : α × β))) ρn ρb := fun Bs po hC σ H n ⟨φ, st⟩ P p D h1 h2 h3 => by
  obtain ⟨v1, x1, y1, z1, w1⟩ := st.sl i _ hi
  obtain ⟨v2, x2, y2, z2, w2⟩ := st.sl j _ hj
  refine ⟨v1, x1, v2, x2, by show 2 ≤ sizeLine; decide, fun t nt => ?_⟩
  have s := same_new (Same.refl H) nt (o := .tup [v1, v2])
  have st1 := st.af (Af.same s (n := n))
  refine h3 _ n _ _ (φ i ++ φ j) p st1.tabs (fun b o z => (st1.base b o z).1) st1.pot (fun b xs h => s _ _ h) (.tup upd_same (.cons (y1.same s) (.cons (y2.same s) .nil (List.append_nil _).symm) rfl)) ?_ ?_
  · exact nodup_app z1 z2 (st.dis i j _ _ hij hi hj)
  · intro b hb
    rcases List.mem_append.mp hb with hb | hb
    · exact w1 b hb
    · exact w2 b hb
/-- through an own list, which is given back behind -/
theorem ri_borA [Pu α] {i : Nat} {xs : Lst α} {v : V} {fp : List Addr} (hi : ρ[i]? = some (.borA v fp (enc xs))) : RI K T (iList K (tVar i)) ρ (retW xs.l) := fun Bs po φ σ H n st P p R q => by
  obtain ⟨h1, h2, h3⟩ := st.sl i _ hi
  obtain ⟨a, vs, fq, rfl, hT, hA, e⟩ := im_lst h2
  have hl := hA.len
  have := ima_pu hA
  subst this
  rw [List.length_map] at hl
  have ha : a ∈ fp := by rw [e]; exact List.mem_cons_self
  refine ⟨_, h1, a, rfl, ⟨_, .inl (.inl hT)⟩, q xs.l n _ H [a] p Af.refl ⟨⟨fun H => H a = some (.lst vs) ∧ ImA K H vs (xs.l.map enc) [], fun i H x H' => YAt vs i H x H', ?_, ⟨hT, hA⟩, fun H H' hl' ht _ g => ⟨hl' a List.mem_cons_self _ g.1, ima_stay g.2 ht⟩, fun i H x H' hi g y => ?_⟩, fun b hb => by rw [List.mem_singleton.mp hb]; exact ⟨_, hT⟩⟩ (fun b hb => by rw [List.mem_singleton.mp hb]; exact (h3 a ha).1) fun b hb => .inl (by rw [List.mem_singleton.mp hb]; exact (h3 a ha).2)⟩
  · rw [← hl]
    exact walk_list.mono (fun H g => .inl (.inl g.1)) fun i H x H' _ _ y => y
  · obtain ⟨rfl, e⟩ := y
    obtain ⟨a, h1, h2⟩ := yat_im g.2 hi e
    exact ⟨a, h1, Same.refl _, h2⟩
def ret3W {α β γ B S2 : Type} (m : M (Ctl (T3 α β γ) B S2)) (fa : S2 → α) (b : β) (fc : S2 → γ) {S : Type} : M (Ctl (T3 α β γ) B S) := fun n P => m n fun c n' => match c with | .nxt s => P (.ret ⟨fa s, b, fc s⟩) n' | .ret r => P (.ret r) n' | .brk x => P (.brk x) n'
theorem rb_for_ret3 {S2 : Type} {tF tu : TS} {i j k : Nat} {b : β} {ρi : V → List Addr → List Sl} {ρl : V → List Addr → S2 → List Sl} {m : M (Ctl (T3 α β γ) B S2)} {fa : S2 → α} {fc : S2 → γ} (hi : ρ[i]? = some (.own (enc b))) (e : ∀ v fp, ρ.set i (.borA v fp (enc b)) = ρi v fp)
    (hj : ∀ v fp s, (ρl v fp s)[j]? = some (.own (enc (fa s)))) (hk : ∀ v fp s, (ρl v fp s)[k]? = some (.own (enc (fc s)))) (hi2 : ∀ v fp s, (ρl v fp s)[i]? = some (.borA v fp (enc b))) (hjk : j ≠ k) (hf : ∀ v fp, RB K T C (tSeq tF tNext) (ρi v fp) m (ρl v fp) ρb) :
    RB K T C (tSeq tF (tSeq (tRet (tTup (tCons (tVar j) (tCons (tVar i) (tCons (tVar k) tNil))))) tu)) ρ (ret3W m fa b fc) ρn ρb := fun Bs po hC σ H n ⟨φ, st⟩ P p D h1 h2 h3 => by
  obtain ⟨v, x1, y1, z1, w1⟩ := st.sl i _ hi
  have st1 := st.freeze hi
  have hil := (List.getElem?_eq_some_iff.mp hi).1
  generalize hBs : (fun b o => Bs b o ∨ (b ∈ φ i ∧ H b = some o)) = Bs1 at st1
  have sub : Sub Bs Bs1 := fun b o z => by rw [← hBs]; exact .inl z
  have st2 : ST K T Bs1 po (ρi v (φ i)) φ σ H n := by
    rw [← e]
    refine ⟨st1.tabs, st1.base, st1.pot, by rw [List.length_set]; exact st.len, fun l s es => ?_, fun l1 l2 d1 d2 hne e1 e2 => ?_⟩
    · by_cases hl : i = l
      · subst hl
        rw [List.getElem?_set, if_pos rfl, if_pos hil] at es
        obtain rfl := Option.some.inj es
        refine ⟨x1, y1, fun b hb => ⟨(w1 b hb).1, ?_⟩⟩
        obtain ⟨o, ho, _⟩ := Im.mtb _ _ _ y1 b hb
        exact ⟨o, by rw [← hBs]; exact .inr ⟨hb, ho⟩⟩
      · rw [List.getElem?_set, if_neg hl] at es
        exact st1.sl l s (by rw [List.getElem?_set, if_neg hl]; exact es)
    · refine st1.dis l1 l2 d1 d2 hne ?_ ?_
      · by_cases hl : i = l1
        · subst hl
          rw [List.getElem?_set, if_pos rfl, if_pos hil] at e1
          cases e1
        · rw [List.getElem?_set, if_neg hl] at e1 ⊢
          exact e1
      · by_cases hl : i = l2
        · subst hl
          rw [List.getElem?_set, if_pos rfl, if_pos hil] at e2
          cases e2
        · rw [List.getElem?_set, if_neg hl] at e2 ⊢
          exact e2
  refine hf v (φ i) Bs1 po hC σ H n ⟨φ, st2⟩ _ p { D with nx := fun σ' H' => tSeq (tRet (tTup (tCons (tVar j) (tCons (tVar i) (tCons (tVar k) tNil))))) tu D σ' H' } (fun s n' σ' H' Bs' p' sb ⟨φ', st'⟩ tp' => ?_) (fun x n' σ' H' Bs' p' sb st' tp' => h2 x n' σ' H' Bs' p' (fun b o z => sb b o (sub b o z)) st' tp') fun r n' v' H' fp p' tb bs pt tp' im nd hf' => h3 r n' v' H' fp p' tb (fun b o z => bs b o (sub b o z)) pt tp' im nd fun b hb => ⟨(hf' b hb).1, fun o z => (hf' b hb).2 o (sub b o z)⟩
  obtain ⟨v1, a1, b1, c1, d1⟩ := st'.sl j _ (hj v (φ i) s)
  obtain ⟨a2, b2, d2⟩ := st'.sl i _ (hi2 v (φ i) s)
  obtain ⟨v3, a3, b3, c3, d3⟩ := st'.sl k _ (hk v (φ i) s)
  refine ⟨v1, a1, v, a2, v3, a3, by show 3 ≤ sizeLine; decide, fun t nt => ?_⟩
  have s' := same_new (Same.refl H') nt (o := .tup [v1, v, v3])
  have st3 := st'.af (Af.same s' (n := n'))
  have ndis : ∀ l d, (ρl v (φ i) s)[l]? = some (.own d) → ∀ x ∈ φ i, x ∉ φ' l := fun l d el x hx hx2 => by
    obtain ⟨_, _, _, _, q⟩ := st'.sl l _ el
    obtain ⟨o, ho⟩ := (d2 x hx).2
    exact (q x hx2).2 o ho
  refine h3 _ n' _ _ (φ' j ++ (φ i ++ φ' k)) p' st3.tabs (fun b o z => (st3.base b o (sb b o (sub b o z))).1) st3.pot (fun b xs h => s' _ _ (tp' b xs h)) (.tup upd_same (.cons (b1.same s') (.cons (b2.same s') (.cons (b3.same s') .nil (List.append_nil _).symm) rfl) rfl)) ?_ ?_
  · refine nodup_app c1 (nodup_app z1 c3 fun x hx hy => ndis k _ (hk v (φ i) s) x hx hy) fun x hx hy => ?_
    rcases List.mem_append.mp hy with hy | hy
    · exact ndis j _ (hj v (φ i) s) x hy hx
    · exact st'.dis j k _ _ hjk (hj v (φ i) s) (hk v (φ i) s) x hx hy
  · intro b hb
    rcases List.mem_append.mp hb with hb | hb
    · exact ⟨(d1 b hb).1, fun o z => (d1 b hb).2 o (sb b o (sub b o z))⟩
    · rcases List.mem_append.mp hb with hb | hb
      · exact w1 b hb
      · exact ⟨(d3 b hb).1, fun o z => (d3 b hb).2 o (sb b o (sub b o z))⟩
end
end Bf
namespace Bf
open PySem PySem.Spec PyProof.Rows L2 LamX NdefX
/-! ## more of what words come to -/
theorem and_w {a b : M Bool} {x y : Bool} {n : Nat} {P : Bool → Nat → Prop} (ha : ∀ Q : Bool → Nat → Prop, Q x n → a n Q) (hb : x = true → ∀ Q : Bool → Nat → Prop, Q y n → b n Q) (p : P (x && y) n) : andW a b n P := by
  refine ha _ ?_
  cases x with
  | true => exact hb rfl _ p
  | false => exact p
theorem or_w {a b : M Bool} {x y : Bool} {n : Nat} {P : Bool → Nat → Prop} (ha : ∀ Q : Bool → Nat → Prop, Q x n → a n Q) (hb : x = false → ∀ Q : Bool → Nat → Prop, Q y n → b n Q) (p : P (x || y) n) : orW a b n P := by
  refine ha _ ?_
  cases x with
  | true => exact p
  | false => exact hb rfl _ p
section
variable {α β γ R B S S2 : Type}
theorem and_b {a b : M Bool} {x y : Bool} {n : Nat} {k : Bool → M β} {P : β → Nat → Prop} (ha : ∀ Q : Bool → Nat → Prop, Q x n → a n Q) (hb : x = true → ∀ Q : Bool → Nat → Prop, Q y n → b n Q) (p : k (x && y) n P) : bindW (andW a b) k n P := and_w ha hb p
theorem or_b {a b : M Bool} {x y : Bool} {n : Nat} {k : Bool → M β} {P : β → Nat → Prop} (ha : ∀ Q : Bool → Nat → Prop, Q x n → a n Q) (hb : x = false → ∀ Q : Bool → Nat → Prop, Q y n → b n Q) (p : k (x || y) n P) : bindW (orW a b) k n P := or_w ha hb p
/-- an if that isn't gone into -/
theorem seq_skip {c : Bool} {a : M (Ctl R B S)} {s : S} {k : S → M (Ctl R B S2)} {n : Nat} {P : Ctl R B S2 → Nat → Prop} (e : c = false) (h : k s n P) : seqW (if c = true then a else retW (.nxt s)) k n P := by
  subst e
  exact h
theorem lcW_both {mt : α → M Bool} {me : α → M β} {t : α → Bool} {g : α → β} {xs : List α} {n0 : Nat} {P : Lst β → Nat → Prop} (ht : ∀ (i : Nat) a n, xs[i]? = some a → ∀ Q : Bool → Nat → Prop, Q (t a) n → mt a n Q) (h : ∀ (i : Nat) a n, xs[i]? = some a → t a = true → ∀ Q : β → Nat → Prop, Q (g a) n → me a n Q) (p : P ⟨(xs.filter t).map g⟩ n0) : lcW mt me xs [] n0 P := by
  refine lcW_inv (fun i acc n => n = n0 ∧ acc = ((xs.take i).filter t).map g) ⟨rfl, rfl⟩ ?_ ?_
  · rintro i a acc n e ⟨rfl, rfl⟩ Q q
    refine ht i a _ e _ ?_
    have et : (xs.take (i + 1)).filter t = (xs.take i).filter t ++ (if t a = true then [a] else []) := by
      rw [List.take_add_one, e, List.filter_append]
      show _ ++ List.filter t [a] = _
      rw [List.filter_cons]
      rfl
    cases hta : t a with
    | true =>
      rw [if_pos rfl]
      refine h i a _ e hta _ (q _ _ ⟨rfl, ?_⟩)
      rw [et, hta, if_pos rfl, List.map_append]
      rfl
    | false =>
      rw [if_neg (by decide)]
      refine q _ _ ⟨rfl, ?_⟩
      rw [et, hta, if_neg (by decide), List.append_nil]
  · rintro acc n ⟨rfl, rfl⟩
    rw [List.take_length]
    exact p
/-- two fors, each item made into a row of things -/
theorem lc2W_inv {mt : α → M Bool} {mi2 : α → M (List β)} {mt2 : α → β → M Bool} {me : α → β → M γ} {xs : List α} {n0 : Nat} {P : Lst γ → Nat → Prop} (I : Nat → List γ → Nat → Prop) (h0 : I 0 [] n0)
    (h : ∀ i a acc n, xs[i]? = some a → I i acc n → ∀ Q : List γ → Nat → Prop, (∀ acc' n', I (i + 1) acc' n' → Q acc' n') → mt a n fun b n1 => if b = true then mi2 a n1 fun ys n2 => acc.length + ys.length ≤ sizeLine ∧ lcW (mt2 a) (me a) ys acc n2 fun r n3 => Q r.l n3 else Q acc n1) (he : ∀ acc n, I xs.length acc n → P ⟨acc⟩ n) : lc2W mt mi2 mt2 me xs [] n0 P := by
  have key : ∀ (ys : List α) (k : Nat) (acc : List γ) (n : Nat), xs.drop k = ys → k ≤ xs.length → I k acc n → lc2W mt mi2 mt2 me ys acc n P := by
    intro ys
    induction ys with
    | nil =>
      intro k acc n e hk i
      have := drop_nil e hk
      subst this
      rw [lc2W_nil]
      exact he acc n i
    | cons y ys ih =>
      intro k acc n e hk i
      rw [lc2W_cons]
      obtain ⟨hy, hk2, ey⟩ := drop_cons e
      have z := h k y acc n hy i (fun acc' n' => lc2W mt mi2 mt2 me ys acc' n' P) fun acc' n' i' => ih (k + 1) acc' n' ey hk2 i'
      show mt y n fun b n1 => (if b = true then bindW (mi2 y) fun zs => reqW (acc.length + zs.length ≤ sizeLine) (bindW (lcW (mt2 y) (me y) zs acc) fun r => lc2W mt mi2 mt2 me ys r.l) else lc2W mt mi2 mt2 me ys acc) n1 P
      have e2 : (fun (b : Bool) (n1 : Nat) => (if b = true then bindW (mi2 y) fun zs => reqW (acc.length + zs.length ≤ sizeLine) (bindW (lcW (mt2 y) (me y) zs acc) fun r => lc2W mt mi2 mt2 me ys r.l) else lc2W mt mi2 mt2 me ys acc) n1 P) = fun b n1 => if b = true then mi2 y n1 fun zs n2 => acc.length + zs.length ≤ sizeLine ∧ lcW (mt2 y) (me y) zs acc n2 fun r n3 => lc2W mt mi2 mt2 me ys r.l n3 P else lc2W mt mi2 mt2 me ys acc n1 P := by
        funext b n1
        cases b <;> rfl
      rw [e2]
      exact z
  exact key xs 0 [] n0 rfl (Nat.zero_le _) h0
theorem lcW_acc {mt : α → M Bool} {me : α → M β} {t : α → Bool} {g : α → β} {P : Lst β → Nat → Prop} : ∀ {xs : List α} {acc : List β} {n0 : Nat}, (∀ a ∈ xs, ∀ n, ∀ Q : Bool → Nat → Prop, Q (t a) n → mt a n Q) → (∀ a ∈ xs, t a = true → ∀ n, ∀ Q : β → Nat → Prop, Q (g a) n → me a n Q) → P ⟨acc ++ (xs.filter t).map g⟩ n0 → lcW mt me xs acc n0 P
  | [], acc, n0, _, _, p => by
    rw [lcW_nil]
    rw [List.filter_nil, List.map_nil, List.append_nil] at p
    exact p
  | x :: xs, acc, n0, ht, h, p => by
    rw [lcW_cons]
    refine ht x List.mem_cons_self n0 _ ?_
    rw [List.filter_cons] at p
    cases b : t x with
    | true =>
      rw [b, if_pos rfl, List.map_cons] at p
      refine if_yes rfl (h x List.mem_cons_self b n0 _ (lcW_acc (fun a ha => ht a (List.mem_cons_of_mem _ ha)) (fun a ha => h a (List.mem_cons_of_mem _ ha)) ?_))
      rw [List.append_assoc]
      exact p
    | false =>
      rw [b, if_neg (by decide)] at p
      exact if_no rfl (lcW_acc (fun a ha => ht a (List.mem_cons_of_mem _ ha)) (fun a ha => h a (List.mem_cons_of_mem _ ha)) p)
/-- both fors without draws -/
theorem lc2W_map {mt : α → M Bool} {mi2 : α → M (List β)} {mt2 : α → β → M Bool} {me : α → β → M γ} {t : α → Bool} {f : α → List β} {t2 : α → β → Bool} {g : α → β → γ} {xs : List α} {n0 : Nat} {N : Nat} {P : Lst γ → Nat → Prop}
    (h1 : ∀ a ∈ xs, ∀ n, ∀ Q : Bool → Nat → Prop, Q (t a) n → mt a n Q) (h2 : ∀ a ∈ xs, t a = true → ∀ n, ∀ Q : List β → Nat → Prop, Q (f a) n → mi2 a n Q) (h3 : ∀ a ∈ xs, t a = true → ∀ b ∈ f a, ∀ n, ∀ Q : Bool → Nat → Prop, Q (t2 a b) n → mt2 a b n Q) (h4 : ∀ a ∈ xs, t a = true → ∀ b ∈ f a, t2 a b = true → ∀ n, ∀ Q : γ → Nat → Prop, Q (g a b) n → me a b n Q)
    (hl : ∀ a ∈ xs, (f a).length ≤ N) (hN : xs.length * N ≤ sizeLine) (p : P ⟨(xs.filter t).flatMap fun a => ((f a).filter (t2 a)).map (g a)⟩ n0) : lc2W mt mi2 mt2 me xs [] n0 P := by
  refine lc2W_inv (fun i acc n => n = n0 ∧ acc.length ≤ i * N ∧ acc = ((xs.take i).filter t).flatMap fun a => ((f a).filter (t2 a)).map (g a)) ⟨rfl, by simp, by simp⟩ ?_ ?_
  · rintro i a acc n e ⟨rfl, hacc, rfl⟩ Q q
    have ha := List.mem_of_getElem? e
    have hi := (List.getElem?_eq_some_iff.mp e).1
    refine h1 a ha _ _ ?_
    have et : (xs.take (i + 1)).filter t = (xs.take i).filter t ++ (if t a = true then [a] else []) := by
      rw [List.take_add_one, e, List.filter_append]
      show _ ++ List.filter t [a] = _
      rw [List.filter_cons]
      rfl
    cases b : t a with
    | true =>
      rw [if_pos rfl]
      refine h2 a ha b _ _ ⟨?_, ?_⟩
      · have h6 := hl a ha
        have h7 : (i + 1) * N ≤ xs.length * N := Nat.mul_le_mul_right _ hi
        rw [Nat.succ_mul] at h7
        omega
      · refine lcW_acc (t := t2 a) (g := g a) (fun b' hb n Q q => h3 a ha b b' hb n Q q) (fun b' hb hb2 n Q q => h4 a ha b b' hb hb2 n Q q) (q _ _ ⟨rfl, ?_, ?_⟩)
        · show List.length (_ ++ _) ≤ _
          rw [List.length_append, List.length_map, Nat.succ_mul]
          have h6 := hl a ha
          have h7 := List.length_filter_le (t2 a) (f a)
          omega
        · rw [et, b, if_pos rfl, List.flatMap_append]
          simp
    | false =>
      rw [if_neg (by decide)]
      refine q _ _ ⟨rfl, by rw [Nat.succ_mul]; omega, ?_⟩
      rw [et, b, if_neg (by decide), List.append_nil]
  · rintro acc n ⟨rfl, _, rfl⟩
    rw [List.take_length]
    exact p
/-- a loop that ends at once or goes on -/
theorem seq_forR {f : α → S → M (Ctl R S S)} {xs : List α} {s0 : S} {n0 : Nat} {k : S → M (Ctl R B S2)} {P : Ctl R B S2 → Nat → Prop} (I : Nat → S → Nat → Prop) (h0 : I 0 s0 n0)
    (h : ∀ i a s n, xs[i]? = some a → I i s n → ∀ Q : Ctl R S S → Nat → Prop, (∀ s' n', I (i + 1) s' n' → Q (.nxt s') n') → (∀ r n', P (.ret r) n' → Q (.ret r) n') → (∀ s' n', k s' n' P → Q (.brk s') n') → f a s n Q) (he : ∀ s n, I xs.length s n → k s n P) : seqW (forW f xs s0) k n0 P := by
  unfold seqW
  exact forW_inv I h0 (fun i a s n e ii Q q1 q2 q3 => h i a s n e ii Q q1 q2 q3) fun s n i => he s n i
/-- what is equal is found equal -/
theorem atI_neg {xs : List α} {k : Nat} (hk : 1 ≤ k) (hl : k ≤ xs.length) : atI xs (-(k : Int)) = xs[xs.length - k]? := by
  unfold atI ixN
  rw [if_neg (by omega), if_pos (by omega)]
  show xs[(-(k : Int) + (xs.length : Int)).toNat]? = _
  rw [show (-(k : Int) + (xs.length : Int)).toNat = xs.length - k by omega]
end
/-! ## data of a kind: its shape, and when two are equal -/
class Shp (α : Type) [Enc α] where
  dp : Nat
  ca : ∀ a : α, (enc a).canLay0 = true
  di : ∀ a : α, (enc a).hasDict = false
  de : ∀ a : α, (enc a).depth ≤ dp
instance : Shp Nat := ⟨0, fun _ => rfl, fun _ => rfl, fun _ => Nat.le_refl _⟩
instance : Shp Int := ⟨0, fun _ => rfl, fun _ => rfl, fun _ => Nat.le_refl _⟩
instance : Shp Bool := ⟨0, fun _ => rfl, fun _ => rfl, fun _ => Nat.le_refl _⟩
instance : Shp Unit := ⟨0, fun _ => rfl, fun _ => rfl, fun _ => Nat.le_refl _⟩
instance {α : Type} [Enc α] [Shp α] : Shp (Option α) := ⟨Shp.dp α, fun a => match a with | none => rfl | some a => Shp.ca a, fun a => match a with | none => rfl | some a => Shp.di a, fun a => match a with | none => Nat.zero_le _ | some a => Shp.de a⟩
theorem lay_all {α : Type} [Enc α] [Shp α] : ∀ xs : List α, PyData.canLayAll0 (xs.map enc) = true ∧ PyData.hasDictAll (xs.map enc) = false ∧ PyData.depthAll (xs.map enc) ≤ Shp.dp α
  | [] => ⟨rfl, rfl, Nat.zero_le _⟩
  | x :: xs => by
    obtain ⟨h1, h2, h3⟩ := lay_all xs
    refine ⟨?_, ?_, ?_⟩
    · show (PyData.canLay0 (enc x) && PyData.canLayAll0 (xs.map enc)) = true
      rw [Shp.ca x, h1]; rfl
    · show (PyData.hasDict (enc x) || PyData.hasDictAll (xs.map enc)) = false
      rw [Shp.di x, h2]; rfl
    · show max (PyData.depth (enc x)) (PyData.depthAll (xs.map enc)) ≤ _
      have := Shp.de x
      omega
instance {α : Type} [Enc α] [Shp α] : Shp (List α) := ⟨Shp.dp α + 1, fun a => (lay_all a).1, fun a => (lay_all a).2.1, fun a => Nat.succ_le_succ (lay_all a).2.2⟩
instance {α : Type} [Enc α] [Shp α] : Shp (Lst α) := ⟨Shp.dp α + 1, fun a => (lay_all a.l).1, fun a => (lay_all a.l).2.1, fun a => Nat.succ_le_succ (lay_all a.l).2.2⟩
instance {α β : Type} [Enc α] [Enc β] [Shp α] [Shp β] : Shp (α × β) := ⟨max (Shp.dp α) (Shp.dp β) + 1, fun a => by
    show (PyData.canLay0 (enc a.1) && (PyData.canLay0 (enc a.2) && true)) = true
    rw [Shp.ca a.1, Shp.ca a.2]; rfl, fun a => by
    show (PyData.hasDict (enc a.1) || (PyData.hasDict (enc a.2) || false)) = false
    rw [Shp.di a.1, Shp.di a.2]; rfl, fun a => by
    show max (PyData.depth (enc a.1)) (max (PyData.depth (enc a.2)) 0) + 1 ≤ _
    have := Shp.de a.1
    have := Shp.de a.2
    omega⟩
instance {α β γ : Type} [Enc α] [Enc β] [Enc γ] [Shp α] [Shp β] [Shp γ] : Shp (T3 α β γ) := ⟨max (Shp.dp α) (max (Shp.dp β) (Shp.dp γ)) + 1, fun a => by
    show (PyData.canLay0 (enc a.a) && (PyData.canLay0 (enc a.b) && (PyData.canLay0 (enc a.c) && true))) = true
    rw [Shp.ca a.a, Shp.ca a.b, Shp.ca a.c]; rfl, fun a => by
    show (PyData.hasDict (enc a.a) || (PyData.hasDict (enc a.b) || (PyData.hasDict (enc a.c) || false))) = false
    rw [Shp.di a.a, Shp.di a.b, Shp.di a.c]; rfl, fun a => by
    show max (PyData.depth (enc a.a)) (max (PyData.depth (enc a.b)) (max (PyData.depth (enc a.c)) 0)) + 1 ≤ _
    have := Shp.de a.a
    have := Shp.de a.b
    have := Shp.de a.c
    omega⟩
instance {α β γ δ : Type} [Enc α] [Enc β] [Enc γ] [Enc δ] [Shp α] [Shp β] [Shp γ] [Shp δ] : Shp (T4 α β γ δ) := ⟨max (Shp.dp α) (max (Shp.dp β) (max (Shp.dp γ) (Shp.dp δ))) + 1, fun a => by
    show (PyData.canLay0 (enc a.a) && (PyData.canLay0 (enc a.b) && (PyData.canLay0 (enc a.c) && (PyData.canLay0 (enc a.d) && true)))) = true
    rw [Shp.ca a.a, Shp.ca a.b, Shp.ca a.c, Shp.ca a.d]; rfl, fun a => by
    show (PyData.hasDict (enc a.a) || (PyData.hasDict (enc a.b) || (PyData.hasDict (enc a.c) || (PyData.hasDict (enc a.d) || false)))) = false
    rw [Shp.di a.a, Shp.di a.b, Shp.di a.c, Shp.di a.d]; rfl, fun a => by
    show max (PyData.depth (enc a.a)) (max (PyData.depth (enc a.b)) (max (PyData.depth (enc a.c)) (max (PyData.depth (enc a.d)) 0))) + 1 ≤ _
    have := Shp.de a.a
    have := Shp.de a.b
    have := Shp.de a.c
    have := Shp.de a.d
    omega⟩
theorem shp {α : Type} [Enc α] [Shp α] (a : α) (h : Shp.dp α ≤ 64 := by decide) : shapeOk (enc a) := by
  refine ⟨?_, Shp.di a⟩
  unfold SeqAt.shaped
  rw [Shp.ca a, Bool.true_and]
  exact decide_eq_true (Nat.le_trans (Shp.de a) h)
/-- equal data, equal things -/
class Eqv (α : Type) [Enc α] : Prop where
  iff : ∀ a b : α, PyData.eqv (enc a) (enc b) = true ↔ a = b
class NoNone (α : Type) [Enc α] : Prop where
  l : ∀ a : α, PyData.eqv .none (enc a) = false
  r : ∀ a : α, PyData.eqv (enc a) .none = false
instance : Eqv Nat := ⟨fun a b => by
  show ((a : Int) == (b : Int)) = true ↔ a = b
  rw [beq_iff_eq]
  omega⟩
instance : Eqv Int := ⟨fun a b => by
  show (a == b) = true ↔ a = b
  rw [beq_iff_eq]⟩
instance : Eqv Bool := ⟨fun a b => by
  show (a == b) = true ↔ a = b
  rw [beq_iff_eq]⟩
instance : NoNone Nat := ⟨fun _ => rfl, fun _ => rfl⟩
instance : NoNone Int := ⟨fun _ => rfl, fun _ => rfl⟩
instance : NoNone Bool := ⟨fun _ => rfl, fun _ => rfl⟩
instance {α : Type} [Enc α] : NoNone (List α) := ⟨fun _ => rfl, fun _ => rfl⟩
instance {α : Type} [Enc α] : NoNone (Lst α) := ⟨fun _ => rfl, fun _ => rfl⟩
instance {α β : Type} [Enc α] [Enc β] : NoNone (α × β) := ⟨fun _ => rfl, fun _ => rfl⟩
instance {α β γ : Type} [Enc α] [Enc β] [Enc γ] : NoNone (T3 α β γ) := ⟨fun _ => rfl, fun _ => rfl⟩
instance {α β γ δ : Type} [Enc α] [Enc β] [Enc γ] [Enc δ] : NoNone (T4 α β γ δ) := ⟨fun _ => rfl, fun _ => rfl⟩
instance {α : Type} [Enc α] [Eqv α] [NoNone α] : Eqv (Option α) := ⟨fun a b => by
  cases a with
  | none =>
    cases b with
    | none => exact ⟨fun _ => rfl, fun _ => rfl⟩
    | some b => exact ⟨fun h => (by rw [show PyData.eqv (enc (none : Option α)) (enc (some b)) = PyData.eqv .none (enc b) from rfl, NoNone.l b] at h; cases h), fun h => nomatch h⟩
  | some a =>
    cases b with
    | none => exact ⟨fun h => (by rw [show PyData.eqv (enc (some a)) (enc (none : Option α)) = PyData.eqv (enc a) .none from rfl, NoNone.r a] at h; cases h), fun h => nomatch h⟩
    | some b => exact (Eqv.iff a b).trans ⟨fun h => by rw [h], fun h => Option.some.inj h⟩⟩
theorem eqv_all {α : Type} [Enc α] [Eqv α] : ∀ xs ys : List α, PyData.eqvAll (xs.map enc) (ys.map enc) = true ↔ xs = ys
  | [], [] => ⟨fun _ => rfl, fun _ => rfl⟩
  | [], y :: ys => ⟨fun h => Bool.noConfusion h, fun h => List.noConfusion rfl (heq_of_eq h)⟩
  | x :: xs, [] => ⟨fun h => Bool.noConfusion h, fun h => List.noConfusion rfl (heq_of_eq h)⟩
  | x :: xs, y :: ys => by
    show (PyData.eqv (enc x) (enc y) && PyData.eqvAll (xs.map enc) (ys.map enc)) = true ↔ _
    rw [Bool.and_eq_true, Eqv.iff, eqv_all xs ys, List.cons.injEq]
instance {α : Type} [Enc α] [Eqv α] : Eqv (List α) := ⟨fun a b => eqv_all a b⟩
instance {α : Type} [Enc α] [Eqv α] : Eqv (Lst α) := ⟨fun a b => (eqv_all a.l b.l).trans ⟨fun h => (by cases a; cases b; exact congrArg Lst.mk h), fun h => by rw [h]⟩⟩
instance {α β : Type} [Enc α] [Enc β] [Eqv α] [Eqv β] : Eqv (α × β) := ⟨fun a b => by
  show (PyData.eqv (enc a.1) (enc b.1) && (PyData.eqv (enc a.2) (enc b.2) && true)) = true ↔ _
  rw [Bool.and_true, Bool.and_eq_true, Eqv.iff, Eqv.iff]
  cases a; cases b
  exact ⟨fun h => (by obtain ⟨h1, h2⟩ := h; dsimp only at h1 h2; rw [h1, h2]), fun h => (by cases h; exact ⟨rfl, rfl⟩)⟩⟩
instance {α β γ : Type} [Enc α] [Enc β] [Enc γ] [Eqv α] [Eqv β] [Eqv γ] : Eqv (T3 α β γ) := ⟨fun a b => by
  show (PyData.eqv (enc a.a) (enc b.a) && (PyData.eqv (enc a.b) (enc b.b) && (PyData.eqv (enc a.c) (enc b.c) && true))) = true ↔ _
  rw [Bool.and_true, Bool.and_eq_true, Bool.and_eq_true, Eqv.iff, Eqv.iff, Eqv.iff]
  cases a; cases b
  exact ⟨fun h => (by obtain ⟨h1, h2, h3⟩ := h; dsimp only at h1 h2 h3; rw [h1, h2, h3]), fun h => (by cases h; exact ⟨rfl, rfl, rfl⟩)⟩⟩
instance {α β γ δ : Type} [Enc α] [Enc β] [Enc γ] [Enc δ] [Eqv α] [Eqv β] [Eqv γ] [Eqv δ] : Eqv (T4 α β γ δ) := ⟨fun a b => by
  show (PyData.eqv (enc a.a) (enc b.a) && (PyData.eqv (enc a.b) (enc b.b) && (PyData.eqv (enc a.c) (enc b.c) && (PyData.eqv (enc a.d) (enc b.d) && true)))) = true ↔ _
  rw [Bool.and_true, Bool.and_eq_true, Bool.and_eq_true, Bool.and_eq_true, Eqv.iff, Eqv.iff, Eqv.iff, Eqv.iff]
  cases a; cases b
  exact ⟨fun h => (by obtain ⟨h1, h2, h3, h4⟩ := h; dsimp only at h1 h2 h3 h4; rw [h1, h2, h3, h4]), fun h => (by cases h; exact ⟨rfl, rfl, rfl, rfl⟩)⟩⟩
theorem eqv_t {α : Type} [Enc α] [Eqv α] {a b : α} (h : a = b) : PyData.eqv (enc a) (enc b) = true := (Eqv.iff a b).mpr h
theorem eqv_f {α : Type} [Enc α] [Eqv α] {a b : α} (h : a ≠ b) : PyData.eqv (enc a) (enc b) = false := by
  cases e : PyData.eqv (enc a) (enc b) with
  | false => rfl
  | true => exact absurd ((Eqv.iff a b).mp e) h
theorem eqv_dec {α : Type} [Enc α] [Eqv α] [DecidableEq α] (a b : α) : PyData.eqv (enc a) (enc b) = decide (a = b) := by
  by_cases h : a = b
  · rw [decide_eq_true h, eqv_t h]
  · rw [decide_eq_false h, eqv_f h]
/-- a comparison of two things -/
theorem eqD_w {α β : Type} [Enc α] [Shp α] [Eqv α] {a b : α} {n : Nat} {k : Bool → M β} {P : β → Nat → Prop} (h : Shp.dp α ≤ 64 := by decide) (p : ∀ x : Bool, (x = true ↔ a = b) → k x n P) : (shapeOk (enc a) ∧ shapeOk (enc b)) ∧ k (PyData.eqv (enc a) (enc b)) n P := ⟨⟨shp a h, shp b h⟩, p _ (Eqv.iff a b)⟩
end Bf
namespace Bf
open PySem PySem.Spec PyProof.Rows L2 LamX NdefX
/-! ## tuples of four and six; what kind a thing is; chained comparisons -/

structure Bls2 (mg : Str → Option Value) : Prop extends Bls mg where
  isinstance : mg "isinstance" = none
  bool : mg "bool" = none
def gNames : List Nat → TGs
  | [] => gNil
  | i :: is => gCons (gName i) (gNames is)
def putAll : List Sl → List Nat → List PyData → List Sl
  | ρ, i :: is, d :: ds => putAll (ρ.set i (.own d)) is ds
  | ρ, _, _ => ρ
section
variable {K : PySem.W.Frag} {T : List (Addr × Str)} {ρ : List Sl}
theorem rgs {Bs : Addr → HO → Prop} {po : Option Addr} {H : Hp} {n : Nat} : ∀ (is : List Nat) (ds : List PyData) (vs : List V) (fp : List Addr) (ρ : List Sl) (φ : Nat → List Addr) (σ : L2.St), ST K T Bs po ρ φ σ H n → ImA K H vs ds fp → fp.Nodup →
    (∀ b ∈ fp, po ≠ some b ∧ (∀ o, ¬ Bs b o) ∧ ∀ j e, ρ[j]? = some (.own e) → b ∉ φ j) → is.length = ds.length → (∀ i ∈ is, i < ρ.length) →
    ∀ Q : L2.St → Hp → Prop, (∀ σ' φ', ST K T Bs po (putAll ρ is ds) φ' σ' H n → (∀ js : List Nat, (∀ t ∈ is, t ∈ js) → wipe σ' js = wipe σ js) → (∀ D, Out D ρ φ → D ∉ fp → Out D (putAll ρ is ds) φ') → Q σ' H) → gNames is vs σ H Q
  | [], [], vs, fp, ρ, φ, σ, st, hA, nd, hp, hl, hi, Q, q => by
    cases hA
    exact ⟨rfl, q σ φ st (fun _ _ => rfl) fun D o _ => o⟩
  | [], _ :: _, _, _, _, _, _, _, _, _, _, hl, _, _, _ => by cases hl
  | _ :: _, [], _, _, _, _, _, _, _, _, _, hl, _, _, _ => by cases hl
  | i :: is, d :: ds, vs, fp, ρ, φ, σ, st, hA, nd, hp, hl, hi, Q, q => by
    cases hA with
    | @cons v vs' d ds f1 f2 fp a b e =>
      subst e
      obtain ⟨n1, n2, n3⟩ := List.nodup_append.mp nd
      have st1 := st.put (hi i List.mem_cons_self) a n1 fun b hb => ⟨(hp b (List.mem_append_left _ hb)).1, (hp b (List.mem_append_left _ hb)).2.1, fun j e _ ej => (hp b (List.mem_append_left _ hb)).2.2 j e ej⟩
      refine ⟨_, _, rfl, rgs is ds vs' f2 _ _ _ st1 b n2 (fun x hx => ⟨(hp x (List.mem_append_right _ hx)).1, (hp x (List.mem_append_right _ hx)).2.1, fun k d2 ek => ?_⟩) (by simpa using hl) (fun j hj => by rw [List.length_set]; exact hi j (List.mem_cons_of_mem _ hj)) Q fun σ' φ' s2 w2 o2 => q σ' φ' s2 (fun js h => ?_) fun D o f => ?_⟩
      · show x ∉ (if k = i then f1 else φ k)
        by_cases hki : k = i
        · rw [if_pos hki]
          exact fun z => n3 x z x hx rfl
        · rw [if_neg hki]
          rw [List.getElem?_set, if_neg (Ne.symm hki)] at ek
          exact (hp x (List.mem_append_right _ hx)).2.2 k d2 ek
      · rw [w2 js fun t ht => h t (List.mem_cons_of_mem _ ht), wipe_set (h i List.mem_cons_self)]
      · exact o2 D (o.put fun z => f (List.mem_append_left _ z)) fun z => f (List.mem_append_right _ z)
theorem rg_tup {α : Type} [Enc α] {is : List Nat} {x : α} {ρ' : List Sl} {ds : List PyData} (hd : enc x = .tuple ds) (hl : is.length = ds.length) (hi : ∀ i ∈ is, i < ρ.length) (e : putAll ρ is ds = ρ') : RG K T is (gTup K is.length (gNames is)) x ρ ρ' := fun Bs po φ σ H n st v fp im nd hp Q q => by
  rw [hd] at im
  subst e
  cases im with
  | tup hT hA =>
    refine ⟨_, _, rfl, hT.q, ?_, rgs is ds _ fp ρ φ σ st hA nd hp hl hi Q q⟩
    rw [ImA.len hA, hl]
end
/-- what is a tuple, whatever its kind -/
class Tpl (α : Type) [Enc α] : Prop where
  ex : ∀ a : α, ∃ ds, enc a = .tuple ds
instance {α : Type} [Enc α] : Tpl (List α) := ⟨fun _ => ⟨_, rfl⟩⟩
instance {α β : Type} [Enc α] [Enc β] : Tpl (α × β) := ⟨fun _ => ⟨_, rfl⟩⟩
instance {α β γ : Type} [Enc α] [Enc β] [Enc γ] : Tpl (T3 α β γ) := ⟨fun _ => ⟨_, rfl⟩⟩
instance {α β γ δ : Type} [Enc α] [Enc β] [Enc γ] [Enc δ] : Tpl (T4 α β γ δ) := ⟨fun _ => ⟨_, rfl⟩⟩
def t4W {α β γ δ : Type} (ma : M α) (mb : M β) (mc : M γ) (md : M δ) : M (T4 α β γ δ) := fun n P => ma n fun x1 n1 => mb n1 fun x2 n2 => mc n2 fun x3 n3 => md n3 fun x4 n4 => P (⟨x1, x2, x3, x4⟩ : (T4 α β γ δ)) n4
section
variable {K : PySem.W.Frag} {T : List (Addr × Str)} {ρ : List Sl}
theorem re_t4 {α β γ δ : Type} [Enc α] [Enc β] [Enc γ] [Enc δ] {ta tb tc td : TE} {ma : M α} {mb : M β} {mc : M γ} {md : M δ} (ha : RE K T ta ρ true ma) (hb : RE K T tb ρ true mb) (hc : RE K T tc ρ true mc) (hd : RE K T td ρ true md) : RE K T (tTup (tCons ta (tCons tb (tCons tc (tCons td tNil))))) ρ true (t4W ma mb mc md) := fun Bs po φ σ H n st P p Q q =>
  ha Bs po φ σ H n st _ p _ fun x1 n1 v1 H1 f1 p1 a1 i1 g1 => hb Bs po φ σ H1 n1 (st.af a1) _ p1 _ fun x2 n2 v2 H2 f2 p2 a2 i2 g2 => hc Bs po φ σ H2 n2 ((st.af a1).af a2) _ p2 _ fun x3 n3 v3 H3 f3 p3 a3 i3 g3 => hd Bs po φ σ H3 n3 (((st.af a1).af a2).af a3) _ p3 _ fun x4 n4 v4 H4 f4 p4 a4 i4 g4 => by
    refine ⟨by show 4 ≤ sizeLine; decide, fun t nt => ?_⟩
    have s := same_new (Same.refl H4) nt (o := .tup [v1, v2, v3, v4])
    have i1' := (((i1.af g1.1 a2.fr).af g1.1 a3.fr).af g1.1 a4.fr).same s
    have i2' := ((i2.af g2.1 a3.fr).af g2.1 a4.fr).same s
    have i3' := (i3.af g3.1 a4.fr).same s
    have i4' := i4.same s
    exact q _ n4 _ _ _ p4 ((((a1.trans a2).trans a3).trans a4).trans (Af.same s)) (.tup upd_same (.cons i1' (.cons i2' (.cons i3' (.cons i4' .nil (List.append_nil _).symm) rfl) rfl) rfl)) (fp_two a1 i1 g1 (fp_two a2 i2 g2 (fp_two a3 i3 g3 g4)))
theorem re_t41 {α β γ δ : Type} [Enc α] [Enc β] [Enc γ] [Enc δ] {t : TE} {f : Bool} {m : M (T4 α β γ δ)} (h : RE K T t ρ f m) : RE K T (tOp (L2.rIxT K) t (tC (.int 0))) ρ f (mapW T4.a m) := fun Bs po φ σ H n st P p Q q => h Bs po φ σ H n st _ p _ fun x n1 v H1 fp pa a1 i1 g1 => by
  cases i1 with
  | tup e b =>
    obtain ⟨v1, v2, v3, v4, f1, f2, f3, f4, rfl, h1, h2, h3, h4, rfl⟩ := ima4 b
    exact ⟨_, _, _, _, rfl, rfl, e.q, rfl, q _ n1 _ H1 _ pa a1 h1 g1.left⟩
theorem re_t42 {α β γ δ : Type} [Enc α] [Enc β] [Enc γ] [Enc δ] {t : TE} {f : Bool} {m : M (T4 α β γ δ)} (h : RE K T t ρ f m) : RE K T (tOp (L2.rIxT K) t (tC (.int 1))) ρ f (mapW T4.b m) := fun Bs po φ σ H n st P p Q q => h Bs po φ σ H n st _ p _ fun x n1 v H1 fp pa a1 i1 g1 => by
  cases i1 with
  | tup e b =>
    obtain ⟨v1, v2, v3, v4, f1, f2, f3, f4, rfl, h1, h2, h3, h4, rfl⟩ := ima4 b
    exact ⟨_, _, _, _, rfl, rfl, e.q, rfl, q _ n1 _ H1 _ pa a1 h2 g1.right.left⟩
theorem re_t43 {α β γ δ : Type} [Enc α] [Enc β] [Enc γ] [Enc δ] {t : TE} {f : Bool} {m : M (T4 α β γ δ)} (h : RE K T t ρ f m) : RE K T (tOp (L2.rIxT K) t (tC (.int 2))) ρ f (mapW T4.c m) := fun Bs po φ σ H n st P p Q q => h Bs po φ σ H n st _ p _ fun x n1 v H1 fp pa a1 i1 g1 => by
  cases i1 with
  | tup e b =>
    obtain ⟨v1, v2, v3, v4, f1, f2, f3, f4, rfl, h1, h2, h3, h4, rfl⟩ := ima4 b
    exact ⟨_, _, _, _, rfl, rfl, e.q, rfl, q _ n1 _ H1 _ pa a1 h3 g1.right.right.left⟩
theorem re_t44 {α β γ δ : Type} [Enc α] [Enc β] [Enc γ] [Enc δ] {t : TE} {f : Bool} {m : M (T4 α β γ δ)} (h : RE K T t ρ f m) : RE K T (tOp (L2.rIxT K) t (tC (.int 3))) ρ f (mapW T4.d m) := fun Bs po φ σ H n st P p Q q => h Bs po φ σ H n st _ p _ fun x n1 v H1 fp pa a1 i1 g1 => by
  cases i1 with
  | tup e b =>
    obtain ⟨v1, v2, v3, v4, f1, f2, f3, f4, rfl, h1, h2, h3, h4, rfl⟩ := ima4 b
    exact ⟨_, _, _, _, rfl, rfl, e.q, rfl, q _ n1 _ H1 _ pa a1 h4 g1.right.right.right⟩
theorem uw_len4 {α β γ δ : Type} [Enc α] [Enc β] [Enc γ] [Enc δ] : UnW K (fun x H Q => ∃ p ys, [x] = [.ref p] ∧ (SqL K H p ys ∨ SqT K H p ys) ∧ Q (.int ys.length) H) (fun x : (T4 α β γ δ) => retW 4) := unw_pure fun xs H v fp i1 n P p => by
  cases i1 with
  | tup e b =>
    have hl := b.len
    exact ⟨4, _, p, .int _, fun Q q => ⟨_, _, rfl, .inr e.q, by rw [hl]; exact q⟩⟩
end
structure T6 (α β γ δ ε ζ : Type) where
  a : α
  b : β
  c : γ
  d : δ
  e : ε
  f : ζ
instance {α β γ δ ε ζ : Type} [Enc α] [Enc β] [Enc γ] [Enc δ] [Enc ε] [Enc ζ] : Enc (T6 α β γ δ ε ζ) := ⟨fun x => .tuple [enc x.a, enc x.b, enc x.c, enc x.d, enc x.e, enc x.f]⟩
theorem ima5 {K : PySem.W.Frag} {H : Hp} {vs : List V} {d1 d2 d3 d4 d5 : PyData} {fp : List Addr} (h : ImA K H vs [d1, d2, d3, d4, d5] fp) : ∃ v1 v2 v3 v4 v5 f1 f2 f3 f4 f5, vs = [v1, v2, v3, v4, v5] ∧ Im K H v1 d1 f1 ∧ Im K H v2 d2 f2 ∧ Im K H v3 d3 f3 ∧ Im K H v4 d4 f4 ∧ Im K H v5 d5 f5 ∧ fp = f1 ++ (f2 ++ (f3 ++ (f4 ++ f5))) := by
  cases h with
  | cons a b q =>
    obtain ⟨w2, w3, w4, w5, g2, g3, g4, g5, rfl, h2, h3, h4, h5, e⟩ := ima4 b
    exact ⟨_, w2, w3, w4, w5, _, _, _, _, _, rfl, a, h2, h3, h4, h5, by rw [q, e]⟩
theorem ima6 {K : PySem.W.Frag} {H : Hp} {vs : List V} {d1 d2 d3 d4 d5 d6 : PyData} {fp : List Addr} (h : ImA K H vs [d1, d2, d3, d4, d5, d6] fp) : ∃ v1 v2 v3 v4 v5 v6 f1 f2 f3 f4 f5 f6, vs = [v1, v2, v3, v4, v5, v6] ∧ Im K H v1 d1 f1 ∧ Im K H v2 d2 f2 ∧ Im K H v3 d3 f3 ∧ Im K H v4 d4 f4 ∧ Im K H v5 d5 f5 ∧ Im K H v6 d6 f6 ∧ fp = f1 ++ (f2 ++ (f3 ++ (f4 ++ (f5 ++ f6)))) := by
  cases h with
  | cons a b q =>
    obtain ⟨w2, w3, w4, w5, w6, g2, g3, g4, g5, g6, rfl, h2, h3, h4, h5, h6, e⟩ := ima5 b
    exact ⟨_, w2, w3, w4, w5, w6, _, _, _, _, _, _, rfl, a, h2, h3, h4, h5, h6, by rw [q, e]⟩
instance {α β γ δ ε ζ : Type} [Enc α] [Enc β] [Enc γ] [Enc δ] [Enc ε] [Enc ζ] [Pu α] [Pu β] [Pu γ] [Pu δ] [Pu ε] [Pu ζ] : Pu (T6 α β γ δ ε ζ) := ⟨fun {K H v a fp} h => by
  cases h with
  | tup e b =>
    obtain ⟨v1, v2, v3, v4, v5, v6, f1, f2, f3, f4, f5, f6, rfl, h1, h2, h3, h4, h5, h6, rfl⟩ := ima6 b
    rw [Pu.pu h1, Pu.pu h2, Pu.pu h3, Pu.pu h4, Pu.pu h5, Pu.pu h6]; rfl⟩
instance {α β γ δ ε ζ : Type} [Enc α] [Enc β] [Enc γ] [Enc δ] [Enc ε] [Enc ζ] [Shp α] [Shp β] [Shp γ] [Shp δ] [Shp ε] [Shp ζ] : Shp (T6 α β γ δ ε ζ) := ⟨max (Shp.dp α) (max (Shp.dp β) (max (Shp.dp γ) (max (Shp.dp δ) (max (Shp.dp ε) (Shp.dp ζ))))) + 1, fun a => by
    show (PyData.canLay0 (enc a.a) && (PyData.canLay0 (enc a.b) && (PyData.canLay0 (enc a.c) && (PyData.canLay0 (enc a.d) && (PyData.canLay0 (enc a.e) && (PyData.canLay0 (enc a.f) && true)))))) = true
    rw [Shp.ca a.a, Shp.ca a.b, Shp.ca a.c, Shp.ca a.d, Shp.ca a.e, Shp.ca a.f]; rfl, fun a => by
    show (PyData.hasDict (enc a.a) || (PyData.hasDict (enc a.b) || (PyData.hasDict (enc a.c) || (PyData.hasDict (enc a.d) || (PyData.hasDict (enc a.e) || (PyData.hasDict (enc a.f) || false)))))) = false
    rw [Shp.di a.a, Shp.di a.b, Shp.di a.c, Shp.di a.d, Shp.di a.e, Shp.di a.f]; rfl, fun a => by
    show (max (PyData.depth (enc a.a)) (max (PyData.depth (enc a.b)) (max (PyData.depth (enc a.c)) (max (PyData.depth (enc a.d)) (max (PyData.depth (enc a.e)) (max (PyData.depth (enc a.f)) 0)))))) + 1 ≤ _
    have := Shp.de a.a
    have := Shp.de a.b
    have := Shp.de a.c
    have := Shp.de a.d
    have := Shp.de a.e
    have := Shp.de a.f
    omega⟩
instance {α β γ δ ε ζ : Type} [Enc α] [Enc β] [Enc γ] [Enc δ] [Enc ε] [Enc ζ] : NoNone (T6 α β γ δ ε ζ) := ⟨fun _ => rfl, fun _ => rfl⟩
instance {α β γ δ ε ζ : Type} [Enc α] [Enc β] [Enc γ] [Enc δ] [Enc ε] [Enc ζ] [Eqv α] [Eqv β] [Eqv γ] [Eqv δ] [Eqv ε] [Eqv ζ] : Eqv (T6 α β γ δ ε ζ) := ⟨fun a b => by
  show (PyData.eqv (enc a.a) (enc b.a) && (PyData.eqv (enc a.b) (enc b.b) && (PyData.eqv (enc a.c) (enc b.c) && (PyData.eqv (enc a.d) (enc b.d) && (PyData.eqv (enc a.e) (enc b.e) && (PyData.eqv (enc a.f) (enc b.f) && true)))))) = true ↔ _
  rw [Bool.and_true, Bool.and_eq_true, Bool.and_eq_true, Bool.and_eq_true, Bool.and_eq_true, Bool.and_eq_true, Eqv.iff, Eqv.iff, Eqv.iff, Eqv.iff, Eqv.iff, Eqv.iff]
  cases a; cases b
  exact ⟨fun h => (by obtain ⟨h1, h2, h3, h4, h5, h6⟩ := h; dsimp only at h1 h2 h3 h4 h5 h6; rw [h1, h2, h3, h4, h5, h6]), fun h => (by cases h; exact ⟨rfl, rfl, rfl, rfl, rfl, rfl⟩)⟩⟩
instance {α β γ δ ε ζ : Type} [Enc α] [Enc β] [Enc γ] [Enc δ] [Enc ε] [Enc ζ] : Tpl (T6 α β γ δ ε ζ) := ⟨fun _ => ⟨_, rfl⟩⟩
def t6W {α β γ δ ε ζ : Type} (ma : M α) (mb : M β) (mc : M γ) (md : M δ) (me : M ε) (mf : M ζ) : M (T6 α β γ δ ε ζ) := fun n P => ma n fun x1 n1 => mb n1 fun x2 n2 => mc n2 fun x3 n3 => md n3 fun x4 n4 => me n4 fun x5 n5 => mf n5 fun x6 n6 => P (⟨x1, x2, x3, x4, x5, x6⟩ : (T6 α β γ δ ε ζ)) n6
section
variable {K : PySem.W.Frag} {T : List (Addr × Str)} {ρ : List Sl}
theorem re_t6 {α β γ δ ε ζ : Type} [Enc α] [Enc β] [Enc γ] [Enc δ] [Enc ε] [Enc ζ] {ta tb tc td te tf : TE} {ma : M α} {mb : M β} {mc : M γ} {md : M δ} {me : M ε} {mf : M ζ} (ha : RE K T ta ρ true ma) (hb : RE K T tb ρ true mb) (hc : RE K T tc ρ true mc) (hd : RE K T td ρ true md) (he : RE K T te ρ true me) (hf : RE K T tf ρ true mf) : RE K T (tTup (tCons ta (tCons tb (tCons tc (tCons td (tCons te (tCons tf tNil))))))) ρ true (t6W ma mb mc md me mf) := fun Bs po φ σ H n st P p Q q =>
  ha Bs po φ σ H n st _ p _ fun x1 n1 v1 H1 f1 p1 a1 i1 g1 => hb Bs po φ σ H1 n1 (st.af a1) _ p1 _ fun x2 n2 v2 H2 f2 p2 a2 i2 g2 => hc Bs po φ σ H2 n2 ((st.af a1).af a2) _ p2 _ fun x3 n3 v3 H3 f3 p3 a3 i3 g3 => hd Bs po φ σ H3 n3 (((st.af a1).af a2).af a3) _ p3 _ fun x4 n4 v4 H4 f4 p4 a4 i4 g4 => he Bs po φ σ H4 n4 ((((st.af a1).af a2).af a3).af a4) _ p4 _ fun x5 n5 v5 H5 f5 p5 a5 i5 g5 => hf Bs po φ σ H5 n5 (((((st.af a1).af a2).af a3).af a4).af a5) _ p5 _ fun x6 n6 v6 H6 f6 p6 a6 i6 g6 => by
    refine ⟨by show 6 ≤ sizeLine; decide, fun t nt => ?_⟩
    have s := same_new (Same.refl H6) nt (o := .tup [v1, v2, v3, v4, v5, v6])
    have i1' := (((((i1.af g1.1 a2.fr).af g1.1 a3.fr).af g1.1 a4.fr).af g1.1 a5.fr).af g1.1 a6.fr).same s
    have i2' := ((((i2.af g2.1 a3.fr).af g2.1 a4.fr).af g2.1 a5.fr).af g2.1 a6.fr).same s
    have i3' := (((i3.af g3.1 a4.fr).af g3.1 a5.fr).af g3.1 a6.fr).same s
    have i4' := ((i4.af g4.1 a5.fr).af g4.1 a6.fr).same s
    have i5' := (i5.af g5.1 a6.fr).same s
    have i6' := i6.same s
    exact q _ n6 _ _ _ p6 ((((((a1.trans a2).trans a3).trans a4).trans a5).trans a6).trans (Af.same s)) (.tup upd_same (.cons i1' (.cons i2' (.cons i3' (.cons i4' (.cons i5' (.cons i6' .nil (List.append_nil _).symm) rfl) rfl) rfl) rfl) rfl)) (fp_two a1 i1 g1 (fp_two a2 i2 g2 (fp_two a3 i3 g3 (fp_two a4 i4 g4 (fp_two a5 i5 g5 g6)))))
theorem re_t61 {α β γ δ ε ζ : Type} [Enc α] [Enc β] [Enc γ] [Enc δ] [Enc ε] [Enc ζ] {t : TE} {f : Bool} {m : M (T6 α β γ δ ε ζ)} (h : RE K T t ρ f m) : RE K T (tOp (L2.rIxT K) t (tC (.int 0))) ρ f (mapW T6.a m) := fun Bs po φ σ H n st P p Q q => h Bs po φ σ H n st _ p _ fun x n1 v H1 fp pa a1 i1 g1 => by
  cases i1 with
  | tup e b =>
    obtain ⟨v1, v2, v3, v4, v5, v6, f1, f2, f3, f4, f5, f6, rfl, h1, h2, h3, h4, h5, h6, rfl⟩ := ima6 b
    exact ⟨_, _, _, _, rfl, rfl, e.q, rfl, q _ n1 _ H1 _ pa a1 h1 g1.left⟩
theorem re_t62 {α β γ δ ε ζ : Type} [Enc α] [Enc β] [Enc γ] [Enc δ] [Enc ε] [Enc ζ] {t : TE} {f : Bool} {m : M (T6 α β γ δ ε ζ)} (h : RE K T t ρ f m) : RE K T (tOp (L2.rIxT K) t (tC (.int 1))) ρ f (mapW T6.b m) := fun Bs po φ σ H n st P p Q q => h Bs po φ σ H n st _ p _ fun x n1 v H1 fp pa a1 i1 g1 => by
  cases i1 with
  | tup e b =>
    obtain ⟨v1, v2, v3, v4, v5, v6, f1, f2, f3, f4, f5, f6, rfl, h1, h2, h3, h4, h5, h6, rfl⟩ := ima6 b
    exact ⟨_, _, _, _, rfl, rfl, e.q, rfl, q _ n1 _ H1 _ pa a1 h2 g1.right.left⟩
theorem re_t63 {α β γ δ ε ζ : Type} [Enc α] [Enc β] [Enc γ] [Enc δ] [Enc ε] [Enc ζ] {t : TE} {f : Bool} {m : M (T6 α β γ δ ε ζ)} (h : RE K T t ρ f m) : RE K T (tOp (L2.rIxT K) t (tC (.int 2))) ρ f (mapW T6.c m) := fun Bs po φ σ H n st P p Q q => h Bs po φ σ H n st _ p _ fun x n1 v H1 fp pa a1 i1 g1 => by
  cases i1 with
  | tup e b =>
    obtain ⟨v1, v2, v3, v4, v5, v6, f1, f2, f3, f4, f5, f6, rfl, h1, h2, h3, h4, h5, h6, rfl⟩ := ima6 b
    exact ⟨_, _, _, _, rfl, rfl, e.q, rfl, q _ n1 _ H1 _ pa a1 h3 g1.right.right.left⟩
theorem re_t64 {α β γ δ ε ζ : Type} [Enc α] [Enc β] [Enc γ] [Enc δ] [Enc ε] [Enc ζ] {t : TE} {f : Bool} {m : M (T6 α β γ δ ε ζ)} (h : RE K T t ρ f m) : RE K T (tOp (L2.rIxT K) t (tC (.int 3))) ρ f (mapW T6.d m) := fun Bs po φ σ H n st P p Q q => h Bs po φ σ H n st _ p _ fun x n1 v H1 fp pa a1 i1 g1 => by
  cases i1 with
  | tup e b =>
    obtain ⟨v1, v2, v3, v4, v5, v6, f1, f2, f3, f4, f5, f6, rfl, h1, h2, h3, h4, h5, h6, rfl⟩ := ima6 b
    exact ⟨_, _, _, _, rfl, rfl, e.q, rfl, q _ n1 _ H1 _ pa a1 h4 g1.right.right.right.left⟩
theorem re_t65 {α β γ δ ε ζ : Type} [Enc α] [Enc β] [Enc γ] [Enc δ] [Enc ε] [Enc ζ] {t : TE} {f : Bool} {m : M (T6 α β γ δ ε ζ)} (h : RE K T t ρ f m) : RE K T (tOp (L2.rIxT K) t (tC (.int 4))) ρ f (mapW T6.e m) := fun Bs po φ σ H n st P p Q q => h Bs po φ σ H n st _ p _ fun x n1 v H1 fp pa a1 i1 g1 => by
  cases i1 with
  | tup e b =>
    obtain ⟨v1, v2, v3, v4, v5, v6, f1, f2, f3, f4, f5, f6, rfl, h1, h2, h3, h4, h5, h6, rfl⟩ := ima6 b
    exact ⟨_, _, _, _, rfl, rfl, e.q, rfl, q _ n1 _ H1 _ pa a1 h5 g1.right.right.right.right.left⟩
theorem re_t66 {α β γ δ ε ζ : Type} [Enc α] [Enc β] [Enc γ] [Enc δ] [Enc ε] [Enc ζ] {t : TE} {f : Bool} {m : M (T6 α β γ δ ε ζ)} (h : RE K T t ρ f m) : RE K T (tOp (L2.rIxT K) t (tC (.int 5))) ρ f (mapW T6.f m) := fun Bs po φ σ H n st P p Q q => h Bs po φ σ H n st _ p _ fun x n1 v H1 fp pa a1 i1 g1 => by
  cases i1 with
  | tup e b =>
    obtain ⟨v1, v2, v3, v4, v5, v6, f1, f2, f3, f4, f5, f6, rfl, h1, h2, h3, h4, h5, h6, rfl⟩ := ima6 b
    exact ⟨_, _, _, _, rfl, rfl, e.q, rfl, q _ n1 _ H1 _ pa a1 h6 g1.right.right.right.right.right⟩
theorem uw_len6 {α β γ δ ε ζ : Type} [Enc α] [Enc β] [Enc γ] [Enc δ] [Enc ε] [Enc ζ] : UnW K (fun x H Q => ∃ p ys, [x] = [.ref p] ∧ (SqL K H p ys ∨ SqT K H p ys) ∧ Q (.int ys.length) H) (fun x : (T6 α β γ δ ε ζ) => retW 6) := unw_pure fun xs H v fp i1 n P p => by
  cases i1 with
  | tup e b =>
    have hl := b.len
    exact ⟨6, _, p, .int _, fun Q q => ⟨_, _, rfl, .inr e.q, by rw [hl]; exact q⟩⟩
end

section
variable {K : PySem.W.Frag} {T : List (Addr × Str)} {ρ : List Sl}
variable {α β γ δ : Type} [Enc α] [Enc β] [Enc γ] [Enc δ]
/-! ### None or a tuple -/
theorem uw_isNQ [Tpl α] : UnW K (fun x H (Q : VK) => Q (.bl (decide (x = .non))) H) (fun x : Option α => retW x.isNone) := unw_pure fun x H v fp i1 n P p => by
  cases x with
  | none => cases i1; exact ⟨_, _, p, .bl _, fun Q q => q⟩
  | some a =>
    obtain ⟨ds, e⟩ := Tpl.ex a
    have i2 : Im K H v (enc a) fp := i1
    rw [e] at i2
    cases i2
    exact ⟨_, _, p, .bl _, fun Q q => q⟩
theorem uw_notNQ [Tpl α] : UnW K (fun x H (Q : VK) => Q (.bl (!decide (x = .non))) H) (fun x : Option α => retW (!x.isNone)) := unw_pure fun x H v fp i1 n P p => by
  cases x with
  | none => cases i1; exact ⟨_, _, p, .bl _, fun Q q => q⟩
  | some a =>
    obtain ⟨ds, e⟩ := Tpl.ex a
    have i2 : Im K H v (enc a) fp := i1
    rw [e] at i2
    cases i2
    exact ⟨_, _, p, .bl _, fun Q q => q⟩
def reprO {α : Type} [Enc α] : Option α → Str
  | none => "None"
  | some l => (enc l).shown
theorem uw_reprOQ [Tpl α] : UnW K (fun x => rReprA K [x]) (fun xs : Option α => reqW (∀ l, xs = some l → ReprOk (enc l)) (retW (reprO xs))) := unw_pure fun xs H v fp i1 n P p => by
  cases xs with
  | none => cases i1; exact ⟨_, _, p.2, .str _, fun Q q => .inl ⟨rfl, q⟩⟩
  | some l =>
    have z := p.1 l rfl
    obtain ⟨ds, e⟩ := Tpl.ex l
    have i2 : Im K H v (enc l) fp := i1
    have i3 := i2
    rw [e] at i3
    cases i3
    exact ⟨_, _, p.2, .str _, fun Q q => .inr ⟨_, _, rfl, Im.dpD _ _ _ i2 z.2.1, z.1, z.2.1, z.2.2.1, z.2.2.2, q⟩⟩
theorem uw_reprQ [Tpl α] : UnW K (fun x => rReprA K [x]) (fun x : α => reqW (ReprOk (enc x)) (retW (enc x).shown)) := unw_pure fun x H v fp i1 n P p => by
  obtain ⟨ds, e⟩ := Tpl.ex x
  have i3 := i1
  rw [e] at i3
  cases i3
  exact ⟨_, _, p.2, .str _, fun Q q => .inr ⟨_, _, rfl, Im.dpD _ _ _ i1 p.1.2.1, p.1.1, p.1.2.1, p.1.2.2.1, p.1.2.2.2, q⟩⟩
/-! ### a truth's repr -/
def rReprB : List V → Hp → VK → Prop := fun xs H Q => ∃ b, xs = [.bl b] ∧ Q (.str (if b then "True" else "False")) H
theorem call_reprB {X : Cx} : CallR X (.builtin "repr") rReprB := by
  intro pins s σ H xs us Q I r h
  obtain ⟨b, rfl, q⟩ := h
  obtain ⟨u, rfl, ru⟩ := vals1 r
  cases ru
  exact P.repr_of_bool ⟨.str (if b then "True" else "False"), H, I.tok _, ⟨_, rfl⟩, q⟩
theorem uw_reprB : UnW K (fun x => rReprB [x]) (fun b : Bool => retW ((if b then "True" else "False") : Str)) := unw_pure fun b H v fp i1 n P p => by
  cases i1
  exact ⟨_, _, p, .str _, fun Q q => ⟨b, rfl, q⟩⟩
/-! ### is True, is False -/
def rIsBl : R2 := fun x y H Q => ∃ a b, x = .bl a ∧ y = .bl b ∧ Q (.bl (decide (a = b))) H
def rNotBl : R2 := fun x y H Q => ∃ a b, x = .bl a ∧ y = .bl b ∧ Q (.bl (!decide (a = b))) H
theorem op_isB {X : Cx} : OpR X (compareOp .Is) rIsBl := op_is_bl
theorem op_isnotB {X : Cx} : OpR X (compareOp .IsNot) rNotBl := op_isnot_bl
theorem ow_isB : OpW K rIsBl (fun a b : Bool => retW (decide (a = b))) := opw_pure fun a b H v w fp fq i1 i2 n P p => by
  cases i1
  cases i2
  exact ⟨_, _, p, .bl _, fun Q q => ⟨a, b, rfl, rfl, q⟩⟩
theorem ow_isnotB : OpW K rNotBl (fun a b : Bool => retW (!decide (a = b))) := opw_pure fun a b H v w fp fq i1 i2 n P p => by
  cases i1
  cases i2
  exact ⟨_, _, p, .bl _, fun Q q => ⟨a, b, rfl, rfl, q⟩⟩
/-! ### isinstance -/
theorem re_isi {ta : TE} {ma : M α} {g : α → Bool} {c : String} {f1 : Bool} (hk : ∀ (a : α) (H : Hp) (v : V) (fp : List Addr), Im K H v (enc a) fp → ∃ t, TyX K H v t ∧ PySem.W.kitOne K t (.type c) = some (g a)) (ha : RE K T ta ρ f1 ma) : RE K T (tCB (rIsi K) (tCons ta (tCons (tC (.ty c)) tNil))) ρ true (mapW g ma) := fun Bs po φ σ H n st P p Q q =>
  ha Bs po φ σ H n st _ p _ fun a n1 v H1 fp pa a1 i1 g1 => by
    obtain ⟨t, ty, kk⟩ := hk a H1 v fp i1
    exact ⟨v, .ty c, t, .type c, g a, rfl, .ty c, ty, kk, q _ n1 _ H1 [] pa a1 (.bl _) Fp.nil⟩
theorem isi_NI (a : Nat) (H : Hp) (v : V) (fp : List Addr) (i : Im K H v (enc a) fp) : ∃ t, TyX K H v t ∧ PySem.W.kitOne K t (.type "int") = some true := by
  cases i
  exact ⟨_, .base (.int _), kit_ty (by decide +kernel)⟩
theorem isi_NB (a : Nat) (H : Hp) (v : V) (fp : List Addr) (i : Im K H v (enc a) fp) : ∃ t, TyX K H v t ∧ PySem.W.kitOne K t (.type "bool") = some false := by
  cases i
  exact ⟨_, .base (.int _), kit_ty (by decide +kernel)⟩
theorem isi_TT [Tpl α] (a : α) (H : Hp) (v : V) (fp : List Addr) (i : Im K H v (enc a) fp) : ∃ t, TyX K H v t ∧ PySem.W.kitOne K t (.type "tuple") = some true := by
  obtain ⟨ds, e⟩ := Tpl.ex a
  rw [e] at i
  cases i with
  | tup hT hA => exact ⟨_, .base (.tup hT), kit_ty (by decide +kernel)⟩
theorem isi_OT [Tpl α] (a : Option α) (H : Hp) (v : V) (fp : List Addr) (i : Im K H v (enc a) fp) : ∃ t, TyX K H v t ∧ PySem.W.kitOne K t (.type "tuple") = some a.isSome := by
  cases a with
  | none => cases i; exact ⟨_, .base .non, kit_ty (show kitB "NoneType" "tuple" = some false by decide +kernel)⟩
  | some a => exact isi_TT a H v fp i
/-! ### a chained comparison -/
def chW (f g : Nat → Nat → Bool) (ma mb mc : M Nat) : M Bool := bindW ma fun a => bindW mb fun b => if f a b = true then bindW mc fun c => retW (g b c) else retW false
theorem re_chain {ta tb tc : TE} {ma mb mc : M Nat} {f g : Nat → Nat → Bool} {r r' : R2} {f1 f2 f3 : Bool} (hr : OpW K r fun a b : Nat => retW (f a b)) (hr' : OpW K r' fun a b : Nat => retW (g a b)) (ha : RE K T ta ρ f1 ma) (hb : RE K T tb ρ f2 mb) (hc : RE K T tc ρ f3 mc) :
    RE K T (tChain r r' ta tb tc) ρ true (chW f g ma mb mc) := fun Bs po φ σ H n st P p Q q =>
  ha Bs po φ σ H n st _ p _ fun a n1 v H1 fp pa a1 i1 g1 => hb Bs po φ σ H1 n1 (st.af a1) _ pa _ fun b n2 w H2 fq pb a2 i2 g2 => by
    cases i1
    cases i2
    refine hr a b H2 _ _ [] [] (.int _) (.int _) n2 (fun c n' => c = f a b ∧ n' = n2) ⟨rfl, rfl⟩ _ fun c H3 v' fr pc s3 i3 g3 => ?_
    obtain ⟨rfl, -⟩ := pc
    cases i3
    refine ⟨_, rfl, ?_⟩
    have a3 : Af K T po H n H3 n2 := (a1.trans a2).trans (Af.same s3)
    cases e : f a b with
    | false =>
      rw [if_neg (by decide)]
      dsimp only at pb
      rw [e, if_neg (by decide)] at pb
      exact q false n2 _ H3 [] pb a3 (.bl _) Fp.nil
    | true =>
      rw [if_pos rfl]
      dsimp only at pb
      rw [e, if_pos rfl] at pb
      refine hc Bs po φ σ H3 n2 (st.af a3) _ pb _ fun c n4 u H4 fr4 pd a4 i4 g4 => ?_
      cases i4
      refine hr' b c H4 _ _ [] [] (.int _) (.int _) n4 _ pd _ fun c2 H5 v5 fr5 p5 s5 i5 g5 => ?_
      cases i5
      exact q c2 n4 _ H5 [] p5 ((a3.trans a4).trans (Af.same s5)) (.bl _) Fp.nil
/-! ### three names at once -/
section
variable {R B S : Type} [Enc R] {C : Option Addr → Prop} {ρn : S → List Sl} {ρb : B → List Sl}
theorem rb_par3 [Pu α] [Pu β] [Pu γ] {t1 t2 t3 : TE} {tu : TS} {i j l : Nat} {m1 : M α} {m2 : M β} {m3 : M γ} {k : α → β → γ → M (Ctl R B S)} {ρ2 : α → β → γ → List Sl} (ha : RE K T t1 ρ true m1) (hb : RE K T t2 ρ true m2) (hc : RE K T t3 ρ true m3) (hi : i < ρ.length) (hj : j < ρ.length) (hl : l < ρ.length)
    (e : ∀ a b c, ((ρ.set i (.own (enc a))).set j (.own (enc b))).set l (.own (enc c)) = ρ2 a b c)
    (hu : ∀ a b c, RB K T C tu (ρ2 a b c) (k a b c) ρn ρb) : RB K T C (tSeq (tPar3 i j l (tCons t1 (tCons t2 (tCons t3 tNil)))) tu) ρ (fun n P => m1 n fun a n1 => m2 n1 fun b n2 => m3 n2 fun c n3 => k a b c n3 P) ρn ρb :=
  fun Bs po hC σ H n ⟨φ, st⟩ P p D h1 h2 h3 => ha Bs po φ σ H n st _ p _ fun a n1 v H1 fp pa a1 i1 g1 => hb Bs po φ σ H1 n1 (st.af a1) _ pa _ fun b n2 w H2 fq pb a2 i2 g2 => hc Bs po φ σ H2 n2 ((st.af a1).af a2) _ pb _ fun c n3 u H3 fr pc a3 i3 g3 => by
    have a123 := (a1.trans a2).trans a3
    obtain rfl := Pu.pu i1
    obtain rfl := Pu.pu i2
    obtain rfl := Pu.pu i3
    have st3 := (st.af a123).put0 hi ((i1.af g1.1 a2.fr).af g1.1 a3.fr)
    have st4 := st3.put0 (i := j) (by rw [List.length_set]; exact hj) (i2.af g2.1 a3.fr)
    have st5 := st4.put0 (i := l) (by rw [List.length_set, List.length_set]; exact hl) i3
    rw [e a b c] at st5
    exact ⟨v, w, u, rfl, (hu a b c).go (Bs := Bs) hC ⟨_, st5⟩ pc (fun b o z => z) a123.fr.tup h1 h2 h3⟩
end
/-! ### a list from behind -/
theorem walk_revL {K : PySem.W.Frag} {a : Addr} {xs : List V} : Walk (Itv K a xs.length) xs.length (fun H => SqL K H a xs) (fun i H x H' => H' = H ∧ xs[xs.length - 1 - i]? = some x) :=
  ⟨fun i _ hi q => ⟨hi, xs, xs[xs.length - 1 - i]'(by omega), q, by simp [show xs.length - 1 - i < xs.length by omega]⟩, fun _ _ => Nat.le_refl _, fun _ _ _ _ _ q y => ⟨y.1, y.2 xs q⟩⟩
theorem ri_borR [Pu α] {i : Nat} {xs : Lst α} (hi : ρ[i]? = some (.bor (enc xs))) : RI K T (_root_.RT.iRevA K (tVar i)) ρ (retW xs.l.reverse) := fun Bs po φ σ H n st P p R q => by
  obtain ⟨v, h1, h2, h3⟩ := st.sl i _ hi
  obtain ⟨a, vs, fq, rfl, hT, hA, e⟩ := im_lst h2
  have hl := hA.len
  have := ima_pu hA
  subst this
  rw [List.length_map] at hl
  have ha : a ∈ φ i := by rw [e]; exact List.mem_cons_self
  refine ⟨_, h1, a, vs, rfl, .inl ⟨.inl (.inl hT), q xs.l.reverse n _ H [a] p Af.refl ⟨⟨fun H => H a = some (.lst vs) ∧ ImA K H vs (xs.l.map enc) [], fun i H x H' => H' = H ∧ vs[vs.length - 1 - i]? = some x, ?_, ⟨hT, hA⟩, fun H H' hl' ht _ g => ⟨hl' a List.mem_cons_self _ g.1, ima_stay g.2 ht⟩, fun i H x H' hi g y => ?_⟩, fun b hb => by rw [List.mem_singleton.mp hb]; exact ⟨_, hT⟩⟩ (fun b hb => by rw [List.mem_singleton.mp hb]; exact (h3 a ha).1) fun b hb => .inl (by rw [List.mem_singleton.mp hb]; exact (h3 a ha).2)⟩⟩
  · rw [List.length_reverse, ← hl]
    exact walk_revL.mono (fun H g => .inl (.inl g.1)) fun i H x H' _ _ y => y
  · obtain ⟨rfl, e⟩ := y
    rw [List.length_reverse] at hi
    rw [hl] at e
    obtain ⟨a, h1, h2⟩ := yat_im g.2 (by omega) e
    exact ⟨a, by rw [getElem_rev hi]; exact h1, Same.refl _, h2⟩
end
end Bf
namespace Bf
open PySem PySem.Spec PyProof.Rows L2 LamX NdefX
/-! ### max(e, key=lambda x: .., default=None) of a list of tuples -/
def Hu (a : Addr) (o : Obj) (xs : List V) : Hp := fun b => if b = a then some (.frz o (.tup xs)) else none
theorem hu_at {a : Addr} {o : Obj} {xs : List V} : Hu a o xs a = some (.frz o (.tup xs)) := if_pos rfl
theorem hu_ne {a b : Addr} {o : Obj} {xs : List V} (h : b ≠ a) : Hu a o xs b = none := if_neg h
section
variable {X : Cx} {pins : List (Addr × Obj)} {σ : L2.St} {H : Hp} {s s1 : Shared}
theorem lam_callT {params : Arguments} {body : Expr} {scope : Scope} {f c' a : Addr} {pm ctv : Value} {x : Str} {N : List Str} {xs : List V} {k : Nat} {t : TE} {m : Int} (I : Inv X pins σ H s)
    (hf : s.heap.get? f = some (PySem.W.kla_obj "<lambda>" (X.env.qual ++ "<lambda>") params body scope (cloFrom X.env.cells scope.names []) pm c' ctv)) (hfr : f ∉ frs X.stack) (hc : H c' = some (CodeO c' (X.env.qual ++ "<lambda>")))
    (S : NScope N [x] [] scope) (cp : X.Ok → Caps X (cloFrom X.env.cells scope.names []) [] [])
    (hbind : ∀ (q : Str) (cl : List (Str × Addr)) (pm cv ctv u : Value), bindArgs (PySem.W.kla_fn "<lambda>" q params body scope cl pm cv ctv) ⟨[u], []⟩ = pure [(x, u)]) (hr : Room (k + 2) X.A) (ks : SS (frs X.stack) s s1)
    (hbody : ∀ (A : Around) (outer : List Env) (z : Shared) (G : Hp), Room k (A.deeper (envF (lamF X params scope c') f z.heap.objs.size)) → PE (ncx CX0 X.prog X.w X.K X.mg X.base N (lamF X params scope c') f A outer z G E0) body t)
    (hT : H a = some (.tup xs)) (ht : ∀ (o : Obj) (Q : VK), Q (.int m) (Hu a o xs) → t (startF N [.ref a] []) (Hu a o xs) Q) :
    wpAny (model X.prog X.w) X.A.in1 (call (.ref f) [.ref a]) (fun u s2 => (∃ t, u = .int m t) ∧ SS (frs X.stack) s1 s2) (fun _ _ => False) s1 := by
  have I1 := inv_SS0 I ks
  have of1 := (ks.1 f _ hf).1 hfr
  have en := I1.env0
  obtain ⟨hz, its, rv, oa, hoa, hca, na, hda⟩ := I1.hok a _ hT
  have neH : ∀ b : Addr, H b = none → b ≠ a := fun b e z => by rw [z, hT] at e; cases e
  have e0 : Env0 X.prog X.w X.K X.mg X.base X.A.in1 X.stack s1 (Hu a oa xs) := ⟨en.frames, en.mod, fun b o q => ⟨(en.bs b o q).1, hu_ne (neH b (en.bs b o q).2)⟩, en.bsz, en.funs, fun b hb => hu_ne (neH b (en.frf b hb)), (fun b o z => by
    by_cases e : b = a
    · rw [e, hu_at] at z
      cases z
      rw [e]
      exact ⟨hoa, hz, its, rv, oa, hoa, hca, na, hda⟩
    · rw [hu_ne e] at z
      cases z), en.bare⟩
  have C0 := cells_of I1 (cp I1.ok)
  have C : CellsAt (cloFrom X.env.cells scope.names []) [] [] s1.heap (Hu a oa xs) := ⟨rfl, fun y c e => ⟨hu_ne (neH c (C0.all y c e).1), (C0.all y c e).2⟩, C0.inj, fun i y e => by simp at e⟩
  obtain ⟨⟨oc, vs, tt, hoc, hdc, hvc⟩, _, _⟩ := I1.hok c' _ hc
  have hr1 : Room (k + 1) X.A.in1 := hr.in1
  have rc : codeAny (model X.prog X.w) X.A.in1 (.call (.ref f) ⟨[.ref a], []⟩) (CR CX0 X.stack X.prog X.w (Hu a oa xs) s1 (fun u _ => u = .int m) E0) s1 := by
    refine PySem.W.kla_callFunE hr1.depth of1 rfl S.co S.gen rfl ⟨c', oc, vs, tt, rfl, hoc, hdc, hvc⟩ ?_
    rw [hbind]
    refine wpAny_pure (wpAny_newFunctionEnv S.nocell (fun y hy => ?_) (fun h₁ hns hsb => ⟨I1.nolimit.fresh _ hsb, ?_⟩) S.kind)
    · have e : y = (x, .ref a) := by simpa using hy
      rw [e]
      exact S.par x (by simp)
    · show codeAny _ _ (.expr body (envF (lamF X params scope c') f s1.heap.objs.size)) _ _
      have kp : ∀ b o, s1.heap.get? b = some o → h₁.get? b = some o := fun b o e => hsb.extBut b o (Nat.ne_of_lt (Heap.lt_size e)) (Heap.get?_push_of_some _ e)
      have J : Inv (ncx CX0 X.prog X.w X.K X.mg X.base N (lamF X params scope c') f X.A.in1 X.stack s1 (Hu a oa xs) E0) [] (startF N [.ref a] []) (Hu a oa xs) { s1 with heap := h₁, toks := s1.toks + ([(x, Value.ref a)] : List (Str × Value)).length } :=
        inv_startN (ps := [x]) (us := [.ref a]) S hr1.hd e0 rfl (.cons rfl .nil) C hns kp
      refine PySem.W.kla_codeExpr (wpAny_mono ((hbody _ _ s1 (Hu a oa xs) (hr1.deeper _)).run [] _ _ (Hu a oa xs) (fun u _ => u = .int m) J (ht oa (fun u _ => u = .int m) rfl)) (fun u z hq => ?_) fun e z hq => hq)
      obtain ⟨w', H', J', rv, q⟩ := hq
      exact ⟨w', H', J'.os, J'.bare, J'.base, J'.hok, rv, q⟩
  refine wpAny_call (codeAny_mono rc fun r z hq => ?_)
  match r, hq with
  | .error _, hq => exact hq.elim
  | .ok .next, hq => exact False.elim hq
  | .ok .brk, hq => exact False.elim hq
  | .ok .cont, hq => exact False.elim hq
  | .ok (.ret u), hq =>
    obtain ⟨u', H', e1, e2, un, hok', rv, q⟩ := hq
    obtain rfl : u' = .int m := q
    refine ⟨rv, fun b o e => ?_, e1, e2⟩
    by_cases eb : b = a
    · subst eb
      rw [hoa] at e
      cases e
      have h2 := (hok' b _ (un.frzs b _ _ hu_at)).1
      exact ⟨fun _ => h2, oa.slots, h2⟩
    · exact ⟨fun hb => un.keep b o e (hu_ne eb) hb (by simp), un.any e (hu_ne eb) (by simp)⟩
def bestI (g : Nat → Int) (n : Nat) : Nat := argBest (fun i j => decide (g i > g j)) (n - 1)
def tMaxLam (T : List (Addr × Str)) (K : PySem.W.Frag) (t : TE) (N : List Str) (te : TE) : TE := fun σ H Q => te σ H fun v H1 => ∃ (a : Addr) (vs : List V) (g : Nat → Int), [v] = [V.ref a] ∧ SqL K H1 a vs ∧ Tabs T H1 ∧
  (∀ (i : Nat) (x : V), vs[i]? = some x → ∃ (b : Addr) (xs : List V), x = .ref b ∧ H1 b = some (.tup xs) ∧ ∀ (o : Obj) (Q' : VK), Q' (.int (g i)) (Hu b o xs) → t (startF N [.ref b] []) (Hu b o xs) Q') ∧
  ∀ H2 : Hp, ExtN H1 H2 → Tabs T H2 → (vs = [] → Q .non H2) ∧ ∀ x : V, vs[bestI g vs.length]? = some x → Q x H2
theorem ext_lst {K : PySem.W.Frag} {H1 H2 : Hp} {a : Addr} {xs : List V} (e : ExtN H1 H2) (h : SqL K H1 a xs) : SqL K H2 a xs := by
  rcases h with (h | ⟨o, h⟩) | h
  · exact .inl (.inl (e _ _ h (fun ps z => nomatch z)))
  · exact .inl (.inr ⟨o, e _ _ h (fun ps z => nomatch z)⟩)
  · exact .inr h
theorem pe_maxLam {T : List (Addr × Str)} {c P : Addr} {e : Expr} {te t : TE} {params : Arguments} {body : Expr} {scope : Scope} {x : Str} {N : List Str} {k : Nat} {p pos lpos kpos dpos npos : Pos} (ha : PA X [e] (tCons te tNil)) (hg : Gl X "max") (hm : X.mg "max" = none)
    (hcalm : X.calm = true) (TB : TabB X.base X.mg c P) (hcode : X.env.code = .ref c) (hmT : (P, X.env.qual ++ "<lambda>") ∈ T) (hu : ∀ p ∈ T, p.1 = P → p.2 = X.env.qual ++ "<lambda>") (hdef : defaultsOf params X.env = ([], []))
    (S : NScope N [x] [] scope) (hfree : ∀ y ∈ scope.names, y.2 = .free → X.env.scope.names.lookup y.1 = some .cell ∨ X.env.scope.names.lookup y.1 = some .free) (cp : X.Ok → Caps X (cloFrom X.env.cells scope.names []) [] [])
    (hbind : ∀ (q : Str) (cl : List (Str × Addr)) (pm cv ctv u : Value), bindArgs (PySem.W.kla_fn "<lambda>" q params body scope cl pm cv ctv) ⟨[u], []⟩ = pure [(x, u)]) (hr : Room (k + 3) X.A)
    (hbody : ∀ (f c' : Addr) (A : Around) (outer : List Env) (z : Shared) (G : Hp), Room (k + 1) (A.deeper (envF (lamF X params scope c') f z.heap.objs.size)) → PE (ncx CX0 X.prog X.w X.K X.mg X.base N (lamF X params scope c') f A outer z G E0) body t)
    (na : backTo pos (starEach [e] X.env) = (false, eval e X.env) :: backTo pos (starEach [] X.env) := by rfl) (hpl : (backTo pos (starEach [e] X.env)).any (·.1) = false := by rfl) :
    PE X (.Call (.Name "max" p) [e] [⟨some "key", .Lambda params body scope lpos, kpos⟩, ⟨some "default", .Constant .none 0 npos, dpos⟩] pos) (tMaxLam T X.K t N te) := by
  refine ⟨fun pins s σ H Q I h => ?_⟩
  refine wpAny_Call_Name_kw (ld_blt I hg hm (show bootBuiltins "max" = some (.builtin "max") by decide +kernel) ?_ (by decide) (by decide))
  refine PyProof.Rows.callWith_kw (thn (ha.run pos pins s σ H (fun vs H1 => ∃ (a : Addr) (ys : List V) (g : Nat → Int), vs = [V.ref a] ∧ SqL X.K H1 a ys ∧ Tabs T H1 ∧
      (∀ (i : Nat) (x : V), ys[i]? = some x → ∃ (b : Addr) (xs : List V), x = .ref b ∧ H1 b = some (.tup xs) ∧ ∀ (o : Obj) (Q' : VK), Q' (.int (g i)) (Hu b o xs) → t (startF N [.ref b] []) (Hu b o xs) Q') ∧
      ∀ H2 : Hp, ExtN H1 H2 → Tabs T H2 → (ys = [] → Q .non H2) ∧ ∀ x : V, ys[bestI g ys.length]? = some x → Q x H2) I h) fun us s1 ⟨vs, H1, I1, r1, q1⟩ => ?_) na hpl (by rfl) (by rfl)
  obtain ⟨a, ys, g, ev, hT, tb, hk, q⟩ : ∃ (a : Addr) (ys : List V) (g : Nat → Int), vs = [V.ref a] ∧ SqL X.K H1 a ys ∧ Tabs T H1 ∧
      (∀ (i : Nat) (x : V), ys[i]? = some x → ∃ (b : Addr) (xs : List V), x = .ref b ∧ H1 b = some (.tup xs) ∧ ∀ (o : Obj) (Q' : VK), Q' (.int (g i)) (Hu b o xs) → t (startF N [.ref b] []) (Hu b o xs) Q') ∧
      ∀ H2 : Hp, ExtN H1 H2 → Tabs T H2 → (ys = [] → Q .non H2) ∧ ∀ x : V, ys[bestI g ys.length]? = some x → Q x H2 := q1
  subst ev
  rw [Vals.ref1 r1]
  show wpAny _ _ (evalAll ((do let v ← eval (.Lambda params body scope lpos) X.env; standAt pos; pure v) :: (do let v ← eval (.Constant .none 0 npos) X.env; standAt pos; pure v) :: [])) _ _ s1
  refine wpAny_evalAll_cons (wpAny_bind (lam_make2 I1 TB hcode hmT hu tb hdef (fun y hy e => (hfree y hy e).elim (fun z => I1.ok.has _ (.inl z)) fun z => I1.ok.has _ (.inr z)) fun f c' pm ctv H2 s2 I2 eN T2 hf hfn hfr hco => wpAny_bind (wpAny_standAt (wpAny_pure ?_))))
  refine wpAny_evalAll_cons (wpAny_bind (Constant_none (wpAny_bind (wpAny_standAt (wpAny_pure (wpAny_evalAll_nil ?_))))))
  obtain ⟨its, rv, hl, _⟩ := I2.list (ext_lst eN hT)
  have hlen := rv.length
  have hlt : a < s2.heap.objs.size := by obtain ⟨_, z, _⟩ := hl.isList; exact Heap.lt_size z
  have hfs : ∀ d ∈ frs X.stack, d < s2.heap.objs.size := fun d hd => by
    obtain ⟨_, o, ho, _⟩ := I2.stack.mem hd
    exact Heap.lt_size ho
  have at_ : ∀ (i : Nat) (v : Value), its.toArray[i]? = some v → ∃ x, ys[i]? = some x ∧ RelV x v := fun i v e => by
    have e : its[i]? = some v := by simpa using e
    have hi := (List.getElem?_eq_some_iff.mp e).1
    obtain ⟨val, h1, h2⟩ := rv.get (List.getElem?_eq_getElem (l := ys) (i := i) (by omega))
    rw [e] at h1
    cases h1
    exact ⟨_, List.getElem?_eq_getElem (by omega), h2⟩
  refine call_max_walkKD (wpAny_pyIter_list hl.isList ?_)
  have e0 : ∀ b o, s2.heap.get? b = some o → (s2.heap.push { cls := .type "list_iterator", data := .fields #[.ref a, .int 0 0] }).get? b = some o := fun b o e => Heap.get?_push_of_some _ e
  refine ⟨s2.heap.objs.size, _, _, _, _, _, _, SS (frs X.stack) s2, fun i k _ => ∃ t, k = Value.int (g i) t, fun i j => decide (g i > g j), rfl, (Walks.list (A := X.A.in1) hr.in1.hd s2.heap.objs.size a (Nat.ne_of_lt hlt) its.toArray).toS, ⟨⟨_, Heap.get?_push_size _ rfl, rfl, rfl⟩, hl.isList.push _⟩, fun b hb => ?_, ?_, ⟨KS.of e0, rfl, I2.bare⟩, fun hn s' hJ => ?_, fun hn v s' hP hJ => ?_⟩
  · show b < (s2.heap.push _).objs.size
    rw [Heap.size_push]
    rcases List.mem_cons.mp hb with rfl | hb
    · exact Nat.lt_succ_self _
    · rw [List.mem_singleton.mp hb]
      exact Nat.lt_succ_of_lt hlt
  · refine ⟨fun s3 s4 j m => ?_, fun i k s3 s4 h _ => h, fun i v s3 o Q E hi hP j st hS hQ => ?_, fun i j ki kj s3 Q E _ h1 h2 q => ?_⟩
    · have nb : ∀ b o, s2.heap.get? b = some o → b ∉ (s2.heap.push { cls := .type "list_iterator", data := .fields #[.ref a, .int 0 0] }).objs.size :: [s2.heap.objs.size] := fun b o e z => by
        have hb := Heap.lt_size e
        rw [Heap.size_push] at z
        rcases List.mem_cons.mp z with z | z
        · rw [z] at hb
          exact Nat.lt_irrefl _ (Nat.lt_of_succ_lt hb)
        · rw [List.mem_singleton.mp z] at hb
          exact Nat.lt_irrefl _ hb
      refine ⟨fun b o e => ?_, m.os.trans j.2.1, by rw [show s4.gens = s3.gens from m.gens]; exact j.2.2⟩
      obtain ⟨h1, sl, h2⟩ := j.1 b o e
      exact ⟨fun hb => m.heap b o (nb b o e) (h1 hb), sl, m.heap b _ (nb b o e) h2⟩
    · obtain ⟨x, hx, rx⟩ := at_ i v hP
      obtain ⟨b, xs, rfl, hb, hkk⟩ := hk i x hx
      obtain rfl : v = .ref b := rx
      refine wpAny_mono (lam_callT (k := k + 1) I2 hf hfr hco S cp hbind hr j (fun A outer z G hrr => hbody f c' A outer z G hrr) (eN b _ hb (fun ps z => nomatch z)) hkk) (fun u s4 ⟨hu4, ks⟩ => hQ u s4 ⟨j.1.trans ks.1, ks.2.1.trans j.2.1, ks.2.2⟩ ?_ ?_ hu4 (fun _ _ h => h)) (fun e z h => h.elim)
      · obtain ⟨⟨o1, a1, a2, a3⟩, o2, b1, b2⟩ := st
        obtain ⟨_, sl1, c1⟩ := ks.1 _ _ a1
        obtain ⟨_, sl2, c2⟩ := ks.1 _ _ b1
        exact ⟨⟨_, c1, a2, a3⟩, _, c2, b2⟩
      · refine (ks.1 _ o hS).1 fun z => ?_
        have := hfs _ z
        rw [show ((s2.heap.push { cls := .type "list_iterator", data := .fields #[.ref a, .int 0 0] }).objs.size) = s2.heap.objs.size + 1 from Heap.size_push ..] at this
        exact Nat.lt_irrefl _ (Nat.lt_of_succ_lt this)
    · exact (CmpOf.ints_gt (P := fun i v => ∃ t, v = Value.int (g i) t) g (fun _ _ h => h)) i j ki kj s3 Q E h1 h2 q
  · have hys : ys = [] := List.eq_nil_of_length_eq_zero (by rw [hlen]; simpa using hn)
    exact ⟨.non, H2, inv_SS0 I2 hJ, rfl, (q H2 eN T2).1 hys⟩
  · have hP : its.toArray[argBest (fun i j => decide (g i > g j)) (its.toArray.size - 1)]? = some v := hP
    obtain ⟨x, hx, rx⟩ := at_ _ v hP
    refine ⟨x, H2, inv_SS0 I2 hJ, rx, (q H2 eN T2).2 x ?_⟩
    unfold bestI
    rw [List.size_toArray, ← hlen] at hx
    exact hx
end
end Bf
namespace Bf
open PySem PySem.Spec PyProof.Rows L2 LamX NdefX
/-! ## the greatest of a list of tuples, by one of their parts -/
def bestF {α : Type} (g : α → Int) (xs : List α) : Option α := xs[bestI (fun i => ((xs[i]?).map g).getD 0) xs.length]?
theorem pot_ext {H H' : Hp} {a : Addr} {n : Nat} (e : ExtN H H') (z : Pot H a n) : Pot H' a n := by
  obtain ⟨x, y, w, h, r⟩ := z
  exact ⟨x, y, w, e _ _ h (fun ps q => nomatch q), r⟩
section
variable {K : PySem.W.Frag} {T : List (Addr × Str)} {ρ : List Sl}
variable {α β γ δ : Type} [Enc α] [Enc β] [Enc γ] [Enc δ]
theorem re_maxKey [Pu α] [Pu β] [Pu δ] {t : TE} {N : List Str} {m : M (Lst (T4 α β Nat δ))} {f : Bool} (h : RE K T t ρ f m) : RE K T (tMaxLam T K (tOp (L2.rIxT K) (tVar 0) (tC (.int 2))) N t) ρ true (mapW (fun xs : Lst (T4 α β Nat δ) => bestF (fun x => ((x.c : Nat) : Int)) xs.l) m) := fun Bs po φ σ H n st P p Q q =>
  h Bs po φ σ H n st _ p _ fun xs n1 v H1 fp pa a1 i1 g1 => by
    obtain ⟨a, vs, f1, rfl, hT, hA, _⟩ := im_lst i1
    have z := ima_pu hA
    subst z
    have hl := hA.len
    rw [List.length_map] at hl
    have pa : P (bestF (fun x : T4 α β Nat δ => ((x.c : Nat) : Int)) xs.l) n1 := pa
    have at_ : ∀ (i : Nat) (x : V), vs[i]? = some x → ∃ y, xs.l[i]? = some y ∧ Im K H1 x (enc y) [] := fun i x hx => yat_im hA (by have := (List.getElem?_eq_some_iff.mp hx).1; omega) hx
    refine ⟨a, vs, fun i => ((xs.l[i]?).map fun x : T4 α β Nat δ => ((x.c : Nat) : Int)).getD 0, rfl, .inl (.inl hT), (st.af a1).tabs, fun i x hx => ?_, fun H2 eN T2 => ?_⟩
    · obtain ⟨y, hy, im⟩ := at_ i x hx
      cases im with
      | tup e b =>
        obtain ⟨v1, v2, v3, v4, f1, f2, f3, f4, rfl, h1, h2, h3, h4, _⟩ := ima4 b
        cases h3
        refine ⟨_, _, rfl, e, fun o Q' hq => ?_⟩
        have hq : Q' (.int (((xs.l[i]?).map fun x : T4 α β Nat δ => ((x.c : Nat) : Int)).getD 0)) (Hu _ o _) := hq
        rw [hy] at hq
        exact ⟨_, rfl, _, _, _, _, rfl, rfl, .inl (.inr ⟨o, hu_at⟩), rfl, hq⟩
    · have af : Af K T po H n H2 n1 := a1.trans ⟨Fr.ext eN, fun _ => T2, fun a e z => pot_ext eN z⟩
      refine ⟨fun hv => ?_, fun x hx => ?_⟩
      · have e : bestF (fun x : T4 α β Nat δ => ((x.c : Nat) : Int)) xs.l = none := by
          have : xs.l = [] := List.eq_nil_of_length_eq_zero (by rw [← hl, hv]; rfl)
          unfold bestF
          rw [this]
          rfl
        rw [e] at pa
        exact q none n1 _ H2 [] pa af .non Fp.nil
      · obtain ⟨y, hy, im⟩ := at_ _ x hx
        have e : bestF (fun x : T4 α β Nat δ => ((x.c : Nat) : Int)) xs.l = some y := by
          unfold bestF
          rw [← hl]
          exact hy
        rw [e] at pa
        exact q (some y) n1 _ H2 [] pa af (Im.stab (fun b l e => eN _ _ e fun ps z => nomatch z) _ _ _ im fun b hb => absurd hb List.not_mem_nil) Fp.nil
/-! ## parts of four -/
theorem re_t4sl [Pu α] [Pu β] [Pu γ] [Pu δ] {t : TE} {m : M (T4 α β γ δ)} {f : Bool} (h : RE K T t ρ f m) : RE K T (tSl (rSlA K) t tNoPart (tPart (tC (.int 2)))) ρ true (mapW (fun x : T4 α β γ δ => (x.a, x.b)) m) := fun Bs po φ σ H n st P p Q q =>
  h Bs po φ σ H n st _ p _ fun x n1 v H1 fp pa a1 i1 g1 => by
    have z := Pu.pu i1
    subst z
    cases i1 with
    | tup e b =>
      obtain ⟨v1, v2, v3, v4, f1, f2, f3, f4, rfl, h1, h2, h3, h4, he⟩ := ima4 b
      have y1 := Pu.pu h1
      have y2 := Pu.pu h2
      subst y1 y2
      refine ⟨2, rfl, _, _, rfl, e.q, fun w => ?_, fun w t nt => ?_⟩
      · exact absurd w (show ¬ (HT.sIx 4 0 none = 0 ∧ HT.sIx 4 4 (some 2) = 4) by decide)
      · have s := same_new (Same.refl H1) nt (o := .tup [v1, v2])
        exact q (x.a, x.b) n1 _ _ [] pa (a1.trans (Af.same s)) (.tup upd_same (.cons (h1.same s) (.cons (h2.same s) .nil rfl) rfl)) Fp.nil
theorem ow_cat34 [Pu α] [Pu β] [Pu γ] [Pu δ] : OpW K (rCatA K) (fun (x : T3 α β γ) (ys : List δ) n P => ∃ d, ys = [d] ∧ P (⟨x.a, x.b, x.c, d⟩ : T4 α β γ δ) n) := fun x ys H v w fp fq i1 i2 n P p Q q => by
  obtain ⟨d, rfl, pd⟩ := p
  have e1 := Pu.pu i1
  have e2 := Pu.pu i2
  subst e1 e2
  obtain ⟨b, ws, rfl, hT2, hA2⟩ := im_tup i2
  obtain ⟨w1, rfl, hw⟩ := ima1 hA2
  cases i1 with
  | tup e c =>
    obtain ⟨v1, v2, v3, f1, f2, f3, rfl, h1, h2, h3, he⟩ := ima3 c
    have y1 := Pu.pu h1
    have y2 := Pu.pu h2
    have y3 := Pu.pu h3
    subst y1 y2 y3
    refine ⟨_, b, _, _, rfl, rfl, e.q, hT2.q, (by show 4 ≤ sizeLine; decide), (fun e => nomatch e), (fun _ e => nomatch e), fun _ _ t nt => ?_⟩
    have s := same_new (Same.refl H) nt (o := .tup ([v1, v2, v3] ++ [w1]))
    exact q _ _ _ [] pd s (.tup upd_same (.cons (h1.same s) (.cons (h2.same s) (.cons (h3.same s) (.cons (hw.same s) .nil rfl) rfl) rfl) rfl)) ⟨List.nodup_nil, fun x h => absurd h List.not_mem_nil⟩
/-! ## where it stands -/
def idxW (xs : List Nat) (y : Nat) : M Nat := fun n P => y ∈ xs ∧ P (xs.idxOf y) n
theorem ints_of : ∀ {xs : List Nat} {vs : List V} {fp : List Addr} {H : Hp}, ImA K H vs (xs.map enc) fp → vs = xs.map fun (x : Nat) => V.int (x : Int)
  | [], _, _, _, h => by cases h; rfl
  | x :: xs, _, _, _, h => by
    cases h with
    | cons a b q =>
      cases a
      rw [ints_of b]
      rfl
theorem flat_ints : ∀ xs : List Nat, (xs.map fun (x : Nat) => V.int (x : Int)).all flatV = true
  | [] => rfl
  | x :: xs => by rw [List.map_cons, List.all_cons, flat_ints xs]; rfl
theorem re_index {i : Nat} {t : TE} {xs : Lst Nat} {m : M Nat} {f : Bool} (hi : ρ[i]? = some (.own (enc xs)) ∨ ρ[i]? = some (.bor (enc xs))) (h : RE K T t ρ f m) : RE K T (tBM K "list" (rIndex K) (tVar i) (tCons t tNil)) ρ true (bindW m fun y => idxW xs.l y) := fun Bs po φ σ H n st P p Q q => by
  obtain ⟨v, h1, h2, h3⟩ : ∃ v, σ[i]? = some (some v) ∧ Im K H v (enc xs) (φ i) ∧ ∀ b ∈ φ i, po ≠ some b := by
    rcases hi with hi | hi
    · obtain ⟨v, e1, e2, e3, e4⟩ := st.sl i _ hi
      exact ⟨v, e1, e2, fun b hb => (e4 b hb).1⟩
    · obtain ⟨v, e1, e2, e3⟩ := st.sl i _ hi
      exact ⟨v, e1, e2, fun b hb => (e3 b hb).1⟩
  obtain ⟨a, vs, fq, rfl, hT, hA, eφ⟩ := im_lst h2
  refine ⟨_, h1, .inl ⟨rfl, vs, .inl (.inl hT)⟩, h Bs po φ σ H n st _ p _ fun y n1 w H1 fp pa a1 im g => ?_⟩
  cases im
  obtain ⟨hm, py⟩ := pa
  have hT1 := a1.fr.keep a _ (h3 a (by rw [eφ]; exact List.mem_cons_self)) hT fun ps z => nomatch z
  have ev := ints_of hA
  have hlt := List.idxOf_lt_length_of_mem hm
  refine ⟨a, vs, .int (y : Int), xs.l.idxOf y, .int (y : Int), rfl, rfl, .inl (.inl hT1), rfl, by rw [ev]; exact flat_ints _, ?_, ?_, fun k z hk hz => ?_, ?_⟩
  · rw [ev, List.getElem?_map, List.getElem?_eq_getElem hlt, List.getElem_idxOf hlt]
    rfl
  · show ((y : Int) == (y : Int)) = true
    exact beq_self_eq_true _
  · rw [ev, List.getElem?_map] at hz
    cases e : xs.l[k]? with
    | none => rw [e] at hz; cases hz
    | some u =>
      rw [e] at hz
      obtain rfl : V.int (u : Int) = z := Option.some.inj hz
      show ((u : Int) == (y : Int)) = false
      have hne : u ≠ y := fun q => by
        subst q
        obtain ⟨h6, h7⟩ := List.getElem?_eq_some_iff.mp e
        have h8 := List.not_of_lt_findIdx (p := (· == u)) (xs := xs.l) hk
        rw [h7] at h8
        simp at h8
      rw [beq_eq_false_iff_ne]
      omega
  · exact q _ n1 _ H1 [] py a1 (.int _) Fp.nil
end
end Bf
namespace Bf
open PySem PySem.Spec PyProof.Rows L2 LamX NdefX
/-! ## dicts with tuples for keys -/
structure Dct (κ β : Type) where
  l : List (κ × β)
instance {κ β : Type} [Enc κ] [Enc β] : Enc (Dct κ β) := ⟨fun d => .dict (d.l.map fun kv => (enc kv.1, enc kv.2))⟩
class TK (κ : Type) [Enc κ] where
  key : κ → List Key
  dec : DecidableEq κ
  inj : ∀ a b, key a = key b → a = b
  en : ∀ a, enc a = .tuple ((key a).map kD)
  obj : ∀ {K : PySem.W.Frag} {H : Hp} {v : V} {a : κ} {fp : List Addr}, Im K H v (enc a) fp → ∃ b, v = .ref b ∧ H b = some (.tup ((key a).map kV))
  back : ∀ {K : PySem.W.Frag} {H : Hp} {b : Addr} {a : κ}, H b = some (.tup ((key a).map kV)) → Im K H (.ref b) (enc a) []
instance {κ : Type} [Enc κ] [TK κ] : DecidableEq κ := TK.dec
instance : TK (T3 Nat Nat Nat) where
  key := fun x => [.inl (x.a : Int), .inl (x.b : Int), .inl (x.c : Int)]
  dec := fun x y => decidable_of_iff (x.a = y.a ∧ x.b = y.b ∧ x.c = y.c) ⟨fun h => by cases x; cases y; obtain ⟨h1, h2, h3⟩ := h; dsimp only at h1 h2 h3; rw [h1, h2, h3], fun h => by subst h; exact ⟨rfl, rfl, rfl⟩⟩
  inj := fun x y h => by
    cases x; cases y
    simp only [List.cons.injEq, Sum.inl.injEq, and_true] at h
    obtain ⟨h1, h2, h3⟩ := h
    simp only [T3.mk.injEq]
    omega
  en := fun _ => rfl
  obj := fun h => by
    cases h with
    | tup e b =>
      obtain ⟨v1, v2, v3, f1, f2, f3, rfl, h1, h2, h3, _⟩ := ima3 b
      cases h1
      cases h2
      cases h3
      exact ⟨_, rfl, e⟩
  back := fun h => .tup h (.cons (.int _) (.cons (.int _) (.cons (.int _) .nil rfl) rfl) rfl)
theorem kD_inj : ∀ {k l : Key}, kD k = kD l → k = l
  | .inl _, .inl _, h => by cases h; rfl
  | .inr _, .inr _, h => by cases h; rfl
  | .inl _, .inr _, h => by cases h
  | .inr _, .inl _, h => by cases h
theorem kDs_inj : ∀ {k l : List Key}, k.map kD = l.map kD → k = l
  | [], [], _ => rfl
  | [], _ :: _, h => by cases h
  | _ :: _, [], h => by cases h
  | a :: k, b :: l, h => by
    rw [List.map_cons, List.map_cons, List.cons.injEq] at h
    rw [kD_inj h.1, kDs_inj h.2]
section
variable {κ β : Type} [Enc κ] [Enc β] [TK κ]
def dPut (l : List (κ × β)) (k : κ) (v : β) : List (κ × β) := if (l.any fun kv => decide (kv.1 = k)) = true then l.map (fun kv => if kv.1 = k then (kv.1, v) else kv) else l ++ [(k, v)]
def dGet (l : List (κ × β)) (k : κ) : Option β := (l.find? fun kv => decide (kv.1 = k)).map (·.2)
/-- entries that tell the same -/
inductive Ents (K : PySem.W.Frag) (H : Hp) : List (List Key × V) → List (κ × β) → Prop
  | nil : Ents K H [] []
  | cons {k : κ} {b : β} {v : V} {kvs : List (List Key × V)} {l : List (κ × β)} : Im K H v (enc b) [] → Ents K H kvs l → Ents K H ((TK.key k, v) :: kvs) ((k, b) :: l)
variable {K : PySem.W.Frag} {H H' : Hp}
theorem ents_of [Pu β] : ∀ {kvs : List (List Key × V)} {l : List (κ × β)} {fp : List Addr}, (l.map fun kv => ((enc kv.1, enc kv.2) : PyData × PyData)).map Prod.fst = kvs.map (fun kv => .tuple (kv.1.map kD)) → ImA K H (kvs.map Prod.snd) ((l.map fun kv => ((enc kv.1, enc kv.2) : PyData × PyData)).map Prod.snd) fp → Ents K H kvs l ∧ fp = []
  | [], [], _, _, h => by cases h; exact ⟨.nil, rfl⟩
  | [], _ :: _, _, e, _ => by cases e
  | _ :: _, [], _, e, _ => by cases e
  | (k, v) :: kvs, (a, b) :: l, _, e, h => by
    rw [List.map_cons, List.map_cons, List.map_cons, List.cons.injEq] at e
    cases h with
    | cons h1 h2 q =>
      have z := Pu.pu (α := β) h1
      subst z
      obtain ⟨h3, rfl⟩ := ents_of e.2 h2
      have ek : TK.key a = k := by
        have := e.1
        rw [show ((enc a, enc b) : PyData × PyData).1 = enc a from rfl, TK.en] at this
        exact kDs_inj (PyData.tuple.inj this)
      subst ek
      exact ⟨.cons h1 h3, q⟩
theorem Ents.to : ∀ {kvs : List (List Key × V)} {l : List (κ × β)}, Ents K H kvs l → (l.map fun kv => ((enc kv.1, enc kv.2) : PyData × PyData)).map Prod.fst = kvs.map (fun kv => .tuple (kv.1.map kD)) ∧ ImA K H (kvs.map Prod.snd) ((l.map fun kv => ((enc kv.1, enc kv.2) : PyData × PyData)).map Prod.snd) []
  | _, _, .nil => ⟨rfl, .nil⟩
  | _, _, .cons h1 h2 => by
    obtain ⟨h3, h4⟩ := Ents.to h2
    refine ⟨?_, .cons h1 h4 rfl⟩
    rw [List.map_cons, List.map_cons, List.map_cons, h3]
    congr 1
    exact TK.en _
theorem im_dct [Pu β] {v : V} {d : Dct κ β} {fq : List Addr} (h : Im K H v (enc d) fq) : ∃ a kvs, v = .ref a ∧ H a = some (.dT kvs) ∧ Ents K H kvs d.l ∧ fq = [a] := by
  have h : Im K H v (.dict (d.l.map fun kv => (enc kv.1, enc kv.2))) fq := h
  generalize hp : (d.l.map fun kv => ((enc kv.1, enc kv.2) : PyData × PyData)) = ps at h
  cases h with
  | dicK e e1 e2 hA q =>
    cases hl : d.l with
    | nil => rw [hl] at hp; cases hp
    | cons x xs =>
      rw [hl, List.map_cons, List.cons.injEq] at hp
      have := congrArg Prod.fst hp.1
      rw [show ((enc x.1, enc x.2) : PyData × PyData).1 = enc x.1 from rfl, TK.en] at this
      cases this
  | dicT e e1 e2 hA q =>
    subst hp
    rw [← e2] at hA
    obtain ⟨h1, rfl⟩ := ents_of e1 hA
    exact ⟨_, _, rfl, e, h1, q⟩
theorem im_ofDct {a : Addr} {kvs : List (List Key × V)} {d : Dct κ β} (e : H a = some (.dT kvs)) (h : Ents K H kvs d.l) : Im K H (.ref a) (enc d) [a] := .dicT e h.to.1 rfl h.to.2 rfl
theorem Ents.stab (ht : ∀ b xs, TupR H b xs → TupR H' b xs) : ∀ {kvs : List (List Key × V)} {l : List (κ × β)}, Ents K H kvs l → Ents K H' kvs l
  | _, _, .nil => .nil
  | _, _, .cons h1 h2 => .cons (Im.stab ht _ _ _ h1 fun b hb => absurd hb List.not_mem_nil) (h2.stab ht)
theorem Ents.any {k : κ} : ∀ {kvs : List (List Key × V)} {l : List (κ × β)}, Ents K H kvs l → (kvs.any fun kv => decide (kv.1 = TK.key k)) = l.any fun kv => decide (kv.1 = k)
  | _, _, .nil => rfl
  | _, _, .cons (k := k2) h1 h2 => by
    rw [List.any_cons, List.any_cons, h2.any]
    congr 1
    by_cases e : k2 = k
    · subst e; simp
    · rw [decide_eq_false e, decide_eq_false fun z => e (TK.inj _ _ z)]
theorem Ents.put {k : κ} {v : V} {b : β} (hv : Im K H v (enc b) []) {kvs : List (List Key × V)} {l : List (κ × β)} (h : Ents K H kvs l) : Ents K H (putK kvs (TK.key k) v) (dPut l k b) := by
  unfold putK dPut
  rw [h.any]
  by_cases c : (l.any fun kv => decide (kv.1 = k)) = true
  · rw [if_pos c, if_pos c]
    clear c
    induction h with
    | nil => exact .nil
    | @cons k2 b2 v2 kvs l h1 h2 ih =>
      rw [List.map_cons, List.map_cons]
      by_cases e : k2 = k
      · subst e
        rw [if_pos rfl, if_pos rfl]
        exact .cons hv ih
      · rw [if_neg e, if_neg fun z => e (TK.inj _ _ z)]
        exact .cons h1 ih
  · rw [if_neg c, if_neg c]
    clear c
    induction h with
    | nil => exact .cons hv .nil
    | cons h1 h2 ih => exact .cons h1 ih
theorem Ents.get {k : κ} {b : β} : ∀ {kvs : List (List Key × V)} {l : List (κ × β)}, Ents K H kvs l → dGet l k = some b → ∃ v, valV kvs (TK.key k) = some v ∧ Im K H v (enc b) []
  | _, _, .nil, e => by cases e
  | _, _, .cons (k := k2) (v := v2) h1 h2, e => by
    unfold dGet at e
    rw [List.find?_cons] at e
    by_cases c : k2 = k
    · subst c
      simp at e
      subst e
      exact ⟨v2, valV_pos rfl, h1⟩
    · rw [decide_eq_false (by exact c)] at e
      obtain ⟨v, h3, h4⟩ := h2.get (b := b) (k := k) e
      refine ⟨v, ?_, h4⟩
      unfold valV at h3 ⊢
      rw [List.find?_cons, decide_eq_false (show ¬ TK.key k2 = TK.key k from fun z => c (TK.inj _ _ z))]
      exact h3
theorem Ents.len : ∀ {kvs : List (List Key × V)} {l : List (κ × β)}, Ents K H kvs l → kvs.length = l.length
  | _, _, .nil => rfl
  | _, _, .cons h1 h2 => by rw [List.length_cons, List.length_cons, h2.len]
theorem Ents.at {k : List Key} {v : V} : ∀ {kvs : List (List Key × V)} {l : List (κ × β)} {i : Nat}, Ents K H kvs l → kvs[i]? = some (k, v) → ∃ x, l[i]? = some x ∧ TK.key x.1 = k
  | _, _, 0, .nil, e => by cases e
  | _, _, i + 1, .nil, e => by cases e
  | _, _, 0, .cons h1 h2, e => by cases e; exact ⟨_, rfl, rfl⟩
  | _, _, i + 1, .cons h1 h2, e => h2.at e
end
section
variable {K : PySem.W.Frag} {T : List (Addr × Str)} {ρ : List Sl}
variable {κ α β : Type} [Enc κ] [Enc α] [Enc β] [TK κ]
theorem re_dnew : RE K T tDNewT ρ true (retW (⟨[]⟩ : Dct κ β)) := fun Bs po φ σ H n st P p Q q => fun t nt => by
  have s := same_new (Same.refl H) nt (o := .dT [])
  exact q _ n _ _ [t] p (Af.same s) (im_ofDct upd_same .nil) (fp_new st ⟨List.nodup_cons.mpr ⟨List.not_mem_nil, List.nodup_nil⟩, fun x hx => by rw [List.mem_singleton.mp hx]; exact nt⟩)
/-- d[k], the dict as it stands -/
theorem re_dget [Pu β] [Pu κ] {i : Nat} {d : Dct κ β} {t : TE} {m : M κ} {f : Bool} (hi : ρ[i]? = some (.own (enc d)) ∨ ρ[i]? = some (.lkd (enc d))) (h : RE K T t ρ f m) : RE K T (tDGet (tVar i) t) ρ true (bindW m fun k => fun n P => ∃ b, dGet d.l k = some b ∧ P b n) := fun Bs po φ σ H n st P p Q q => by
  obtain ⟨a, kvs, h1, h2, h3, h4⟩ : ∃ a kvs, σ[i]? = some (some (.ref a)) ∧ Rd H a (.dT kvs) ∧ po ≠ some a ∧ Ents K H kvs d.l := by
    rcases hi with hi | hi
    · obtain ⟨v, e1, e2, e3, e4⟩ := st.sl i _ hi
      obtain ⟨a, kvs, rfl, c1, c2, c3⟩ := im_dct e2
      exact ⟨a, kvs, e1, .inl c1, (e4 a (by rw [c3]; exact List.mem_cons_self)).1, c2⟩
    · obtain ⟨a, od, u, e1, e2, e3, e4⟩ := st.sl i _ hi
      rcases e4 with ⟨kvs, ps, rfl, y2, y3, y4⟩ | ⟨kvs, ps, rfl, y2, y3, y4⟩
      · have y2 : PyData.dict (d.l.map fun kv => (enc kv.1, enc kv.2)) = .dict ((.none, .none) :: ps) := y2
        have y2 := PyData.dict.inj y2
        cases hl : d.l with
        | nil => rw [hl] at y2; cases y2
        | cons x xs =>
          rw [hl, List.map_cons, List.cons.injEq] at y2
          have := congrArg Prod.fst y2.1
          rw [show ((enc x.1, enc x.2) : PyData × PyData).1 = enc x.1 from rfl, TK.en] at this
          cases this
      · have y2 : PyData.dict (d.l.map fun kv => (enc kv.1, enc kv.2)) = .dict ps := y2
        have y2 := PyData.dict.inj y2
        subst y2
        exact ⟨a, kvs, e1, .inr ⟨od, e3⟩, e2, (ents_of y3 y4).1⟩
  refine ⟨_, h1, h Bs po φ σ H n st _ p _ fun k n1 v H1 fp pa a1 i1 g1 => ?_⟩
  obtain ⟨b, hb, pb⟩ := pa
  obtain ⟨kb, rfl, hk⟩ := TK.obj i1
  obtain ⟨w, hw, iw⟩ := (h4.stab a1.fr.tup).get hb
  have h2' : Rd H1 a (.dT kvs) := by
    rcases h2 with z | ⟨o, z⟩
    · exact .inl (a1.fr.keep a _ h3 z fun ps q => nomatch q)
    · exact .inr ⟨o, a1.fr.keep a _ h3 z fun ps q => nomatch q⟩
  exact ⟨a, w, rfl, .inr ⟨kvs, TK.key k, kb, h2', rfl, hk, hw.symm⟩, q b n1 w H1 [] pb a1 iw Fp.nil⟩
end
section
variable {K : PySem.W.Frag} {T : List (Addr × Str)} {ρ : List Sl} {C : Option Addr → Prop}
variable {κ α β R S B : Type} [Enc κ] [Enc α] [Enc β] [Enc R] [TK κ] {ρn : S → List Sl} {ρb : B → List Sl}
/-- d[k] = e -/
theorem rb_dput [Pu β] [Pu κ] {te tk : TE} {tu : TS} {i : Nat} {d : Dct κ β} {m : M β} {mk : M κ} {k : β → κ → M (Ctl R B S)} {ρ2 : β → κ → List Sl} {f : Bool} (hi : ρ[i]? = some (.own (enc d))) (he : RE K T te ρ true m) (hk : RE K T tk ρ f mk)
    (e : ∀ b a, ρ.set i (.own (enc (⟨dPut d.l a b⟩ : Dct κ β))) = ρ2 b a) (hu : ∀ b a, RB K T C tu (ρ2 b a) (k b a) ρn ρb) :
    RB K T C (tSeq (tAsg te (gSub (tVar i) tk rSetD)) tu) ρ (b2W m mk fun b a => reqW (d.l.length < sizeLine) (k b a)) ρn ρb := fun Bs po hC σ H n ⟨φ, st⟩ P p D h1 h2 h3 => by
  refine he Bs po φ σ H n st _ p _ fun x n1 w H1 fp pa a1 im g => ?_
  have st1 := st.af a1
  obtain ⟨v, e1, e2, e3, e4⟩ := st1.sl i _ hi
  obtain ⟨a, kvs, rfl, hT, hE, eφ⟩ := im_dct e2
  refine ⟨_, e1, hk Bs po φ σ H1 n1 st1 _ pa _ fun y n2 u H2 fp2 pb a2 im2 g2 => ?_⟩
  have z := Pu.pu im
  subst z
  obtain ⟨kb, rfl, hkb⟩ := TK.obj im2
  have st2 := st1.af a2
  have ha : a ∈ φ i := by rw [eφ]; exact List.mem_cons_self
  have hT1 := a2.fr.keep a _ (e4 a ha).1 hT fun ps z => nomatch z
  have imx := im.af (po := po) (fun b hb => absurd hb List.not_mem_nil) a2.fr
  have hE2 := (hE.stab a2.fr.tup).put (k := y) imx
  refine ⟨a, _, rfl, DPut.t hT1 hkb (by rw [hE.len]; exact pb.1), ?_⟩
  have tup : ∀ b xs, TupR H2 b xs → TupR (upd H2 a (.dT (putK kvs (TK.key y) w))) b xs := fun b xs z => by
    unfold TupR at z ⊢
    rw [upd_ne (fun q => by rw [q, hT1] at z; cases z)]
    exact z
  obtain ⟨st3, tp⟩ := st2.writeM (d' := enc (⟨dPut d.l y x⟩ : Dct κ β)) (u' := .dT (putK kvs (TK.key y) w)) hi e1 ha hT1 trivial (by
    rw [eφ]
    exact im_ofDct upd_same (hE2.stab tup))
  rw [e x y] at st3
  exact (hu x y).go (Bs := Bs) hC ⟨φ, st3⟩ pb.2 (fun b o z => z) (Tpk.trans (Tpk.trans a1.fr.tup a2.fr.tup) tp) h1 h2 h3
end
end Bf
namespace Bf
open PySem PySem.Spec PyProof.Rows L2
/-! ### zip of two tuples and a list -/
def Itz3 (K : PySem.W.Frag) (a b c : Addr) : It :=
  ⟨fun i H => ∃ (xs ys zs : List V) (x y z : V), SqT K H a xs ∧ SqT K H b ys ∧ SqL K H c zs ∧ xs[i]? = some x ∧ ys[i]? = some y ∧ zs[i]? = some z,
    fun i H v H' => ∃ T x y z, v = .ref T ∧ H T = none ∧ H' = upd H T (.tup [x, y, z]) ∧ (∀ xs, SqT K H a xs → xs[i]? = some x) ∧ (∀ ys, SqT K H b ys → ys[i]? = some y) ∧ ∀ zs, SqL K H c zs → zs[i]? = some z,
    fun i H => ∃ xs ys zs : List V, SqT K H a xs ∧ SqT K H b ys ∧ SqL K H c zs ∧ i ≤ xs.length ∧ i ≤ ys.length ∧ i ≤ zs.length ∧ (i = xs.length ∨ i = ys.length ∨ i = zs.length)⟩
theorem turn_zip3 {P : Program} {w : World} {K : PySem.W.Frag} {elts : List Expr} {kk : Nat} {tpos : Pos} {a b c z TI TO i1 i2 i3 : Addr} (S : ZipSep3 z TI TO i1 i2 i3 [i1, a] [i2, b] [i3, c]) (na : a ≠ i1) (nb : b ≠ i2) (nc : c ≠ i3) :
    Turn P w K (.Tuple elts kk tpos) (Itz3 K a b c) [z, TI, TO, i1, i2, i3] z (fun i h => IsZip h z TI TO .none ∧ IsTupOf3 h TI (.ref i1) (.ref i2) (.ref i3) ∧ (∃ x y v, IsTupOf3 h TO x y v) ∧ h.IsTupleIter i1 a i ∧ h.IsTupleIter i2 b i ∧ h.IsListIter i3 c i) where
  mem := by simp
  obj := fun i h st d hd => by
    obtain ⟨hz, hTI, ⟨x, y, v, hTO⟩, ⟨o1, e1, _, d1⟩, ⟨o2, e2, _, d2⟩, ⟨o3, e3, _, d3⟩⟩ := st
    have e' : d = z ∨ d = TI ∨ d = TO ∨ d = i1 ∨ d = i2 ∨ d = i3 := by simpa using hd
    rcases e' with q | q | q | q | q | q
    · rw [q]; exact ⟨_, hz, fun v q => nomatch q⟩
    · rw [q]; exact ⟨_, hTI, fun v q => nomatch q⟩
    · rw [q]; exact ⟨_, hTO, fun v q => nomatch q⟩
    · rw [q]; exact ⟨o1, e1, fun v q => by rw [d1] at q; cases q⟩
    · rw [q]; exact ⟨o2, e2, fun v q => by rw [d2] at q; cases q⟩
    · rw [q]; exact ⟨o3, e3, fun v q => by rw [d3] at q; cases q⟩
  keep := fun i h h' st k => by
    obtain ⟨hz, hTI, ⟨x, y, v, hTO⟩, h1, h2, h3⟩ := st
    exact ⟨k z (by simp) _ hz, k TI (by simp) _ hTI, ⟨x, y, v, k TO (by simp) _ hTO⟩, h1.at fun o q => k i1 (by simp) o q, h2.at fun o q => k i2 (by simp) o q, h3.at fun o q => k i3 (by simp) o q⟩
  item := by
    intro X hP hw hK hc i pins s σ H E I hf st hg
    subst hP hw hK
    obtain ⟨hz, hTI, ⟨x0, y0, v0, hTO⟩, h1, h2, h3⟩ := st
    obtain ⟨xs, ys, zs, x, y, v, hqx, hqy, hqz, hx, hy, hv⟩ := hg
    obtain ⟨its, rv, p, _⟩ := I.tuple hqx
    obtain ⟨its2, rv2, p2, _⟩ := I.tuple hqy
    obtain ⟨its3, rv3, p3, _⟩ := I.list hqz
    obtain ⟨u, hu, ru⟩ := rv.get hx
    obtain ⟨u2, hu2, ru2⟩ := rv2.get hy
    obtain ⟨u3, hu3, ru3⟩ := rv3.get hv
    have hzl : z < s.heap.objs.size := Heap.lt_size hz
    have pT : s.heap.IsTuple a its.toArray := p
    have pT2 : s.heap.IsTuple b its2.toArray := p2
    refine wpAny_pyNext_zipD3_item S (Draws.tuple (A := X.A.in1) (I.ok.hd hc) i1 a na its.toArray) (Draws.tuple (A := X.A.in1) (I.ok.hd hc) i2 b nb its2.toArray) (Draws.list (A := X.A.in1) (I.ok.hd hc) i3 c nc its3.toArray) hz hTI hTO ⟨h1, pT⟩ ⟨h2, pT2⟩ ⟨h3, p3.isList⟩
      (by have := (List.getElem?_eq_some_iff.mp hu).1; simpa using this) (by have := (List.getElem?_eq_some_iff.mp hu2).1; simpa using this) (by have := (List.getElem?_eq_some_iff.mp hu3).1; simpa using this) fun x1 x2 x3 h' tk y1 y2 y3 hz' hTO' s1 s2 s3 hT hsz hk => ?_
    have e1 : u = x1 := by have y1 : its.toArray[i]? = some x1 := y1; have y1 : its[i]? = some x1 := by simpa using y1
                           exact Option.some.inj (hu.symm.trans y1)
    have e2 : u2 = x2 := by have y2 : its2.toArray[i]? = some x2 := y2; have y2 : its2[i]? = some x2 := by simpa using y2
                            exact Option.some.inj (hu2.symm.trans y2)
    have e3 : u3 = x3 := by have y3 : its3.toArray[i]? = some x3 := y3; have y3 : its3[i]? = some x3 := by simpa using y3
                            exact Option.some.inj (hu3.symm.trans y3)
    subst e1 e2 e3
    refine ⟨_, rfl, wpAny_letOwnedTupleGo_zip (s := { s with heap := h', toks := tk }) hz' fun h'' z'' sb => ?_⟩
    have hT2 : h''.get? s.heap.objs.size = some { cls := .type "tuple", data := .seq #[u, u2, u3] } := (sb.2 _ (Nat.ne_of_gt hzl)).trans hT
    have new : ObjOk X.prog X.w (upd H s.heap.objs.size (.tup [x, y, v])) h'' s.heap.objs.size (.tup [x, y, v]) :=
      ⟨by show 3 ≤ sizeLine; decide, [u, u2, u3], .cons ru (.cons ru2 (.cons ru3 .nil)), ⟨_, hT2, rfl, _, rfl⟩⟩
    have I1 : Inv X pins σ (upd H s.heap.objs.size (.tup [x, y, v])) { s with heap := h'', toks := tk } :=
      I.turnedNew (t' := tk) (ch := [z, TI, TO, i1, i2, i3]) (fun d o hb q => (sb.2 d (fun q' => hb (by simp [q']))).trans (hk d o (fun q' => hb (by simp [q'])) (fun q' => hb (by simp [q'])) (fun q' => hb (by simp [q'])) (fun q' => hb (by simp [q'])) (fun q' => hb (by simp [q'])) q)) hf (Nat.le_refl _) new
    refine ⟨.ref s.heap.objs.size, _, I1, rfl, ⟨_, x, y, v, rfl, I.hok.fresh (Nat.le_refl _), rfl, fun l hl => by rw [I.tuple_inj hl hqx]; exact hx, fun l hl => by rw [I.tuple_inj hl hqy]; exact hy, fun l hl => by rw [I.list_inj hl hqz]; exact hv⟩, ⟨z'', ?_, ⟨u, u2, u3, ?_⟩, ?_, ?_, ?_⟩, fun d hd => ?_⟩
    · exact (sb.2 _ S.TIz).trans (hk _ _ S.TIz S.TITO S.TIi1 S.TIi2 S.TIi3 hTI)
    · exact (sb.2 _ S.TOz).trans hTO'
    · exact s1.1.at fun o q => (sb.2 _ (Ne.symm S.zi1)).trans q
    · exact s2.1.at fun o q => (sb.2 _ (Ne.symm S.zi2)).trans q
    · exact s3.1.at fun o q => (sb.2 _ (Ne.symm S.zi3)).trans q
    · have hlt : d < s.heap.objs.size := by
        have e' : d = z ∨ d = TI ∨ d = TO ∨ d = i1 ∨ d = i2 ∨ d = i3 := by simpa using hd
        rcases e' with q | q | q | q | q | q
        · rw [q]; exact hzl
        · rw [q]; exact Heap.lt_size hTI
        · rw [q]; exact Heap.lt_size hTO
        · rw [q]; obtain ⟨_, e1, _⟩ := h1; exact Heap.lt_size e1
        · rw [q]; obtain ⟨_, e2, _⟩ := h2; exact Heap.lt_size e2
        · rw [q]; obtain ⟨_, e3, _⟩ := h3; exact Heap.lt_size e3
      rw [upd_ne (Nat.ne_of_lt hlt)]
      exact (hf d hd).1
  done := by
    intro X hP hw hK hc i pins s σ H E I hf st hg
    subst hP hw hK
    obtain ⟨hz, hTI, ⟨x0, y0, v0, hTO⟩, h1, h2, h3⟩ := st
    obtain ⟨xs, ys, zs, hqx, hqy, hqz, l1, l2, l3, hend⟩ := hg
    obtain ⟨its, rv, p, _⟩ := I.tuple hqx
    obtain ⟨its2, rv2, p2, _⟩ := I.tuple hqy
    obtain ⟨its3, rv3, p3, _⟩ := I.list hqz
    have g1 := rv.length
    have g2 := rv2.length
    have g3 := rv3.length
    have pT : s.heap.IsTuple a its.toArray := p
    have pT2 : s.heap.IsTuple b its2.toArray := p2
    refine wpAny_pyNext_zipD3_end S (Draws.tuple (A := X.A.in1) (I.ok.hd hc) i1 a na its.toArray) (Draws.tuple (A := X.A.in1) (I.ok.hd hc) i2 b nb its2.toArray) (Draws.list (A := X.A.in1) (I.ok.hd hc) i3 c nc its3.toArray) hz hTI hTO ⟨h1, pT⟩ ⟨h2, pT2⟩ ⟨h3, p3.isList⟩
      (by simp; omega) (by simp; omega) (by simp; omega) (by simp; omega) fun h' tk hk => ⟨rfl, I.turnedL (t' := tk) (ch := [z, TI, TO, i1, i2, i3]) (fun d o hb q => hk d o (fun q' => hb (by simp [q'])) (fun q' => hb (by simp [q'])) (fun q' => hb (by simp [q'])) (fun q' => hb (by simp [q'])) (fun q' => hb (by simp [q'])) q) hf⟩
  self := fun A i s Q E st h => wpAny_pyIter_zip st.1 h
def iZip3 (K : PySem.W.Frag) (ta : TA) : TI := fun σ H R => ta σ H fun vs H1 => ∃ a b c xs ys zs, vs = [.ref a, .ref b, .ref c] ∧ SqT K H1 a xs ∧ SqT K H1 b ys ∧ SqL K H1 c zs ∧ R (Itz3 K a b c) H1
theorem pi_zip3 {X : Cx} {e e2 e3 : Expr} {ta : TA} {p pos tpos : Pos} {elts : List Expr} {kk : Nat} (hg : Gl X "zip") (hm : X.mg "zip" = none) (ha : PA X [e, e2, e3] ta)
    (hs : starEach [e, e2, e3] X.env = (false, eval e X.env) :: starEach [e2, e3] X.env := by rfl) (hpl : (backTo pos (starEach [e2, e3] X.env)).any (·.1) = false := by rfl) :
    PI X (.Tuple elts kk tpos) (.Call (.Name "zip" p) [e, e2, e3] [] pos) (iZip3 X.K ta) := by
  refine ⟨fun pins s σ H R I h => ?_⟩
  refine Call_ (ld_blt I hg hm PyProof.Rows.boot_zip (PyProof.Rows.callWith_type1 (thn (ha.run pos pins s σ H _ I h) fun us s1 ⟨vs, H1, I1, r1, q1⟩ => ?_) hs hpl))
  obtain ⟨a, b, c, xs, ys, zs, ex, hqx, hqy, hqz, q⟩ := q1
  subst ex
  cases r1 with
  | cons r rr =>
    cases rr with
    | cons r' rr =>
      cases rr with
      | cons r'' rr =>
        cases rr
        cases r
        cases r'
        cases r''
        obtain ⟨its, rv, p1, _⟩ := I1.tuple hqx
        obtain ⟨its2, rv2, p2, _⟩ := I1.tuple hqy
        obtain ⟨its3, rv3, p3, _⟩ := I1.list hqz
        have pT : s1.heap.IsTuple a its.toArray := p1
        have pT2 : s1.heap.IsTuple b its2.toArray := p2
        have la : a < s1.heap.objs.size := by obtain ⟨_, e, _⟩ := pT; exact Heap.lt_size e
        have lb : b < s1.heap.objs.size := by obtain ⟨_, e, _⟩ := pT2; exact Heap.lt_size e
        have lc : c < s1.heap.objs.size := by obtain ⟨_, e, _⟩ := p3.isList; exact Heap.lt_size e
        refine zip_begins3 (begins_tuple a its.toArray) (begins_tuple b its2.toArray) (begins_list c its3.toArray) pT pT2 p3.isList fun h' hz hTI hTO h1 h2 h3 hsz hk => wpAny_pyIter_zip hz ?_
        have I2 : Inv X pins σ H1 { s1 with heap := h' } := I1.kept (t' := s1.toks) hk
        have S := zip_sep3 (N := s1.heap.objs.size) (fp1 := [a]) (fp2 := [b]) (fp3 := [c]) (fun x hx => by rw [List.mem_singleton.mp hx]; exact la) (fun x hx => by rw [List.mem_singleton.mp hx]; exact lb) (fun x hx => by rw [List.mem_singleton.mp hx]; exact lc)
        refine ⟨s1.heap.objs.size + 5, [s1.heap.objs.size + 5, s1.heap.objs.size + 3, s1.heap.objs.size + 4, s1.heap.objs.size, s1.heap.objs.size + 1, s1.heap.objs.size + 2], _, _, H1, rfl, I2, turn_zip3 S (Nat.ne_of_lt la) (Nat.ne_of_lt (Nat.lt_succ_of_lt lb)) (Nat.ne_of_lt (Nat.lt_succ_of_lt (Nat.lt_succ_of_lt lc))), ⟨hz, hTI, ⟨_, _, _, hTO⟩, ⟨_, h1, rfl, rfl⟩, ⟨_, h2, rfl, rfl⟩, ⟨_, h3, rfl, rfl⟩⟩, fun d hd => ?_, q⟩
        have hle : s1.heap.objs.size ≤ d := by
          have e' : d = s1.heap.objs.size + 5 ∨ d = s1.heap.objs.size + 3 ∨ d = s1.heap.objs.size + 4 ∨ d = s1.heap.objs.size ∨ d = s1.heap.objs.size + 1 ∨ d = s1.heap.objs.size + 2 := by simpa using hd
          rcases e' with z | z | z | z | z | z
          · rw [z]; exact Nat.le_add_right _ _
          · rw [z]; exact Nat.le_add_right _ _
          · rw [z]; exact Nat.le_add_right _ _
          · rw [z]; exact Nat.le_refl _
          · rw [z]; exact Nat.le_add_right _ _
          · rw [z]; exact Nat.le_add_right _ _
        exact I1.fpOk hle (I1.hok.fresh hle)
theorem walk_zip3 {K : PySem.W.Frag} {a b c : Addr} {xs ys zs : List V} {n : Nat} (hn : n = min (min xs.length ys.length) zs.length) : Walk (Itz3 K a b c) n (fun H => SqT K H a xs ∧ SqT K H b ys ∧ SqL K H c zs)
    (fun i H v H' => ∃ T x y z, v = .ref T ∧ H T = none ∧ H' = upd H T (.tup [x, y, z]) ∧ xs[i]? = some x ∧ ys[i]? = some y ∧ zs[i]? = some z) := by
  refine ⟨fun i _ hi q => ?_, fun _ q => ⟨xs, ys, zs, q.1, q.2.1, q.2.2, by omega, by omega, by omega, by omega⟩, fun i H v H' _ q y => ?_⟩
  · exact ⟨xs, ys, zs, xs[i]'(by omega), ys[i]'(by omega), zs[i]'(by omega), q.1, q.2.1, q.2.2, by simp, by simp, by simp⟩
  · obtain ⟨T, x, y, z, e1, e2, e3, e4, e5, e6⟩ := y
    exact ⟨T, x, y, z, e1, e2, e3, e4 xs q.1, e5 ys q.2.1, e6 zs q.2.2⟩
end Bf
namespace Bf
open PySem PySem.Spec PyProof.Rows L2 LamX NdefX
theorem tabs_updF {T : List (Addr × Str)} {H : Hp} {D : Addr} {o : Obj} {u u' : HO} (t : Tabs T H) (h : H D = some (.frz o u)) : Tabs T (upd H D u') := fun y hy => by
  obtain ⟨ps, t1, t2, t3⟩ := t y hy
  refine ⟨ps, ?_, t2, fun pos cv hc => ?_⟩
  · rw [upd_ne (fun e => by rw [e, h] at t1; cases t1)]
    exact t1
  · obtain ⟨c, e1, e2⟩ := t3 pos cv hc
    refine ⟨c, e1, ?_⟩
    rw [upd_ne (fun e => by rw [e, h] at e2; unfold CodeO at e2; cases e2)]
    exact e2
abbrev lamN (x : Str) : Str := (x ++ (".<locals>." : Str)) ++ ("<lambda>" : Str)
section
variable {K : PySem.W.Frag} {T : List (Addr × Str)} {ρ : List Sl}
variable {κ α β : Type} [Enc κ] [Enc α] [Enc β] [TK κ]
/-- what is made while a dict is locked -/
theorem re_lockD [Pu β] {i : Nat} {d : Dct κ β} {t : TE} {m : M α} {ρ2 : List Sl} (hi : ρ[i]? = some (.own (enc d))) (e : ρ.set i (.lkd (enc d)) = ρ2) (h : RE K T t ρ2 true m) : RE K T (tLockE t) ρ true m := fun Bs po φ σ H n st P p Q q => by
  obtain ⟨v, e1, e2, e3, e4⟩ := st.sl i _ hi
  obtain ⟨a, kvs, rfl, hT, hE, eφ⟩ := im_dct e2
  have ha : a ∈ φ i := by rw [eφ]; exact List.mem_cons_self
  have hpa := e4 a ha
  have hil := (List.getElem?_eq_some_iff.mp hi).1
  refine ⟨a, .dT kvs, hT, trivial, fun od => ?_⟩
  have tup : ∀ b xs, TupR H b xs → TupR (upd H a (.frz od (.dT kvs))) b xs := fun b xs z => by
    unfold TupR at z ⊢
    rw [upd_ne (fun q => by rw [q, hT] at z; cases z)]
    exact z
  have st2 : ST K T Bs po ρ2 φ σ (upd H a (.frz od (.dT kvs))) n := by
    subst e
    refine ⟨tabs_updM st.tabs hT trivial, fun b o z => ?_, fun p hp => ?_, by rw [List.length_set]; exact st.len, fun j s ej => ?_, fun j k d1 d2 hjk ej ek => ?_⟩
    · obtain ⟨z1, z2, z3⟩ := st.base b o z
      exact ⟨by rw [upd_ne (fun q => hpa.2 o (by rw [← q]; exact z))]; exact z1, z2, z3⟩
    · obtain ⟨x, y, z, hH, hh⟩ := st.pot p hp
      exact ⟨x, y, z, by rw [upd_ne (fun q => hpa.1 (by rw [← q]; exact hp))]; exact hH, hh⟩
    · rw [List.getElem?_set] at ej
      by_cases hij : i = j
      · subst hij
        rw [if_pos rfl, if_pos hil] at ej
        obtain rfl : Sl.lkd (enc d) = s := Option.some.inj ej
        exact ⟨a, od, .dT kvs, e1, hpa.1, upd_same, .inr ⟨kvs, _, rfl, rfl, (hE.stab tup).to.1, (hE.stab tup).to.2⟩⟩
      · rw [if_neg hij] at ej
        have z := st.sl j s ej
        cases s with
        | any => trivial
        | pot => exact z
        | scr ns => exact z
        | bor d1 =>
          obtain ⟨v', z1, z2, z3⟩ := z
          refine ⟨v', z1, Im.stab tup _ _ _ z2 fun b hb xs eb _ => ?_, z3⟩
          rw [upd_ne (fun q => by obtain ⟨o, ho⟩ := (z3 b hb).2; exact hpa.2 o (by rw [← q]; exact ho))]
          exact eb
        | own d1 =>
          obtain ⟨v', z1, z2, z3, z4⟩ := z
          refine ⟨v', z1, Im.stab tup _ _ _ z2 fun b hb xs eb _ => ?_, z3, z4⟩
          rw [upd_ne (fun q => st.dis i j _ d1 hij hi ej a ha (by rw [← q]; exact hb))]
          exact eb
        | borA v' fq d1 =>
          refine ⟨z.1, Im.stab tup _ _ _ z.2.1 fun b hb xs eb _ => ?_, z.2.2⟩
          rw [upd_ne (fun q => by obtain ⟨o, ho⟩ := (z.2.2 b hb).2; exact hpa.2 o (by rw [← q]; exact ho))]
          exact eb
        | lkd d1 =>
          obtain ⟨b, od1, u1, z1, z2, z3, z4⟩ := z
          refine ⟨b, od1, u1, z1, z2, by rw [upd_ne (fun q => by rw [q, hT] at z3; cases z3)]; exact z3, ?_⟩
          rcases z4 with ⟨kvs, ps, y1, y2, y3, y4⟩ | ⟨kvs, ps, y1, y2, y3, y4⟩
          · exact .inl ⟨kvs, ps, y1, y2, y3, ImA.stab tup _ _ _ y4 fun b hb => absurd hb List.not_mem_nil⟩
          · exact .inr ⟨kvs, ps, y1, y2, y3, ImA.stab tup _ _ _ y4 fun b hb => absurd hb List.not_mem_nil⟩
    · have back : ∀ (j : Nat) (d1 : PyData), (ρ.set i (.lkd (enc d)))[j]? = some (.own d1) → ρ[j]? = some (.own d1) := fun j d1 ej => by
        rw [List.getElem?_set] at ej
        by_cases hij : i = j
        · subst hij
          rw [if_pos rfl, if_pos hil] at ej
          cases ej
        · rw [if_neg hij] at ej; exact ej
      exact st.dis j k d1 d2 hjk (back j d1 ej) (back k d2 ek)
  refine h Bs po φ σ _ n st2 P p _ fun x n1 w H1 fp pa a1 i1 g1 => ?_
  have hz : H1 a = some (.frz od (.dT kvs)) := a1.fr.keep a _ hpa.1 upd_same (fun ps z => nomatch z)
  have hfa : ∀ b ∈ fp, b ≠ a := fun b hb q => by
    obtain ⟨ps, z⟩ := (g1.2 rfl).2 b hb (.frz od (.dT kvs)) (by rw [q]; exact upd_same)
    cases z
  refine ⟨hz, q x n1 w (upd H1 a (.dT kvs)) fp pa ⟨⟨fun b o hb e t => ?_, fun b xs e => ?_⟩, fun t => tabs_updF (a1.tabs (tabs_updM t hT trivial)) hz, fun p hp pp => ?_⟩ ?_ ⟨g1.1, fun _ => ⟨(g1.2 rfl).1, fun b hb o e => ?_⟩⟩⟩
  · by_cases hba : b = a
    · rw [hba, hT] at e
      cases e
      rw [hba]
      exact upd_same
    · rw [upd_ne hba]
      exact a1.fr.keep b o hb (by rw [upd_ne hba]; exact e) t
  · have hba : b ≠ a := fun q => by unfold TupR at e; rw [q, hT] at e; cases e
    have := a1.fr.tup b xs (tup b xs e)
    unfold TupR at this ⊢
    rw [upd_ne hba]
    exact this
  · have hne : p ≠ a := fun q => hpa.1 (by rw [← q]; exact hp)
    obtain ⟨x, y, z, hH, hh⟩ := pp
    obtain ⟨x2, y2, z2, hH2, hh2⟩ := a1.pot p hp ⟨x, y, z, by rw [upd_ne hne]; exact hH, hh⟩
    exact ⟨x2, y2, z2, by rw [upd_ne hne]; exact hH2, hh2⟩
  · refine Im.stab (fun b xs e => ?_) _ _ _ i1 fun b hb o e _ => ?_
    · have hba : b ≠ a := fun q => by unfold TupR at e; rw [q, hz] at e; cases e
      unfold TupR at e ⊢
      rw [upd_ne hba]
      exact e
    · rw [upd_ne (hfa b hb)]
      exact e
  · exact (g1.2 rfl).2 b hb o (by rw [upd_ne (hfa b hb)]; exact e)
/-- a comprehension over a locked dict's keys -/
theorem re_lcKeys [Pu κ] [Pu β] [Pu α] {i : Nat} {d : Dct κ β} {g : TG} {tt : TT} {te : TE} {vs ts : List Nat} {mt : κ → M Bool} {me : κ → M α} {ρw : List Sl} {ρx : κ → List Sl} {f : Bool} (hi : ρ[i]? = some (.lkd (enc d))) (hw : wipeR ρ vs = ρw) (hts : ∀ t ∈ ts, t ∈ vs) (hg : ∀ a, RG K T ts g a ρw (ρx a))
    (ht : ∀ a, RT K T tt (ρx a) (mt a)) (he : ∀ a, RE K T te (ρx a) f (me a)) : RE K T (tLc (iKeys (tVar i)) g tt te vs) ρ true (fun n P => d.l.length ≤ sizeLine ∧ lcW mt me (d.l.map Prod.fst) [] n P) := fun Bs po φ σ H1 n1 st1 P pa Q q => by
  obtain ⟨a, od, u, e1, e2, e3, e4⟩ := st1.sl i _ hi
  obtain ⟨kvs, rfl, hE⟩ : ∃ kvs, u = .dT kvs ∧ Ents K H1 kvs d.l := by
    rcases e4 with ⟨kvs, ps, rfl, y2, y3, y4⟩ | ⟨kvs, ps, rfl, y2, y3, y4⟩
    · have y2 : PyData.dict (d.l.map fun kv => (enc kv.1, enc kv.2)) = .dict ((.none, .none) :: ps) := y2
      have y2 := PyData.dict.inj y2
      cases hl : d.l with
      | nil => rw [hl] at y2; cases y2
      | cons x xs =>
        rw [hl, List.map_cons, List.cons.injEq] at y2
        have := congrArg Prod.fst y2.1
        rw [show ((enc x.1, enc x.2) : PyData × PyData).1 = enc x.1 from rfl, TK.en] at this
        cases this
    · have y2 : PyData.dict (d.l.map fun kv => (enc kv.1, enc kv.2)) = .dict ps := y2
      have y2 := PyData.dict.inj y2
      subst y2
      exact ⟨kvs, rfl, (ents_of y3 y4).1⟩
  refine ⟨_, e1, a, od, rfl, .inr ⟨kvs, e3, fun D nD => ?_⟩⟩
  subst hw
  have hDp : po ≠ some D := st1.fresh_pot fun o e => by rw [nD] at e; cases e
  have sD : Same H1 (upd H1 D (.lst [])) := same_new (Same.refl H1) nD
  have hDa : a ≠ D := fun q => by rw [q, nD] at e3; cases e3
  have hlen : kvs.length = (d.l.map Prod.fst).length := by rw [List.length_map]; exact hE.len
  refine lc_it (walk_keysT (d := a) (o := od) (kvs := kvs)) (fun i H' => ∃ (n' : Nat) (acc : List α) (vs' : List V), Af K T po H1 n1 H' n' ∧ H' D = some (.lst vs') ∧ ImA K H' vs' (acc.map enc) [] ∧ acc.length ≤ i ∧ lcW mt me ((d.l.map Prod.fst).drop i) acc n' P) ⟨n1, [], [], Af.same sD, upd_same, .nil, Nat.le_refl _, by rw [List.drop_zero]; exact pa.2⟩ (fun i H' _ z => by obtain ⟨_, _, _, af, _⟩ := z; exact af.fr.keep a _ e2 e3 fun ps z => nomatch z) ?_ ?_
  · rintro j x HA HB hj ⟨n', acc, vs', af, eD, hA, hacc, pl⟩ hy
    obtain ⟨rfl, k, v, qk, hk, rfl, hq⟩ := hy
    obtain ⟨y, hy1, hy2⟩ := hE.at hk
    have imx : Im K HB (.ref qk) (enc y.1) [] := TK.back (by rw [hy2]; exact hq)
    have ha : (d.l.map Prod.fst)[j]? = some y.1 := by rw [List.getElem?_map, hy1]; rfl
    have stB := (st1.af af).wipe vs
    have hj2 : j < (d.l.map Prod.fst).length := by rw [← hlen]; exact hj
    have hdr : (d.l.map Prod.fst).drop j = y.1 :: (d.l.map Prod.fst).drop (j + 1) := by
      rw [List.drop_eq_getElem_cons hj2]
      congr 1
      exact Option.some.inj ((List.getElem?_eq_getElem hj2).symm.trans ha)
    rw [hdr, lcW_cons] at pl
    refine hg y.1 Bs po φ (L2.wipe σ vs) HB n' stB (.ref qk) [] imx List.nodup_nil (fun b hb => absurd hb List.not_mem_nil) _ fun σ' φ' stx hwp _ => ⟨(hwp vs hts).trans (wipe_wipe vs), ?_⟩
    refine ht y.1 Bs po φ' σ' HB n' stx _ pl _ fun b n2 HC pb a2 => ?_
    have eDC := a2.fr.keep D _ hDp eD fun ps z => nomatch z
    cases b with
    | false =>
      exact (if_neg (by decide)).mpr ⟨n2, acc, vs', af.trans a2, eDC, hA.af (fun b hb => absurd hb List.not_mem_nil) a2.fr, by omega, pb⟩
    | true =>
      refine (if_pos rfl).mpr (he y.1 Bs po φ' σ' HC n2 (stx.af a2) _ pb _ fun z n3 u HE fp' pe a3 iy gy' => ?_)
      have eDE := a3.fr.keep D _ hDp eDC fun ps z => nomatch z
      have w := Pu.pu iy
      subst w
      have hAE := (hA.af (po := po) (fun b hb => absurd hb List.not_mem_nil) a2.fr).af (po := po) (fun b hb => absurd hb List.not_mem_nil) a3.fr
      have hl := hA.len
      rw [List.length_map] at hl
      have afE := (af.trans a2).trans a3
      have keepU : ∀ b o, b ≠ D → HE b = some o → (upd HE D (.lst (vs' ++ [u]))) b = some o := fun b o nb e => by rw [upd_ne nb]; exact e
      have tupU : ∀ b l, TupR HE b l → TupR (upd HE D (.lst (vs' ++ [u]))) b l := fun b l e => keepU _ _ (fun z => by unfold TupR at e; rw [z, eDE] at e; cases e) e
      have afU : Af K T po H1 n1 (upd HE D (.lst (vs' ++ [u]))) n3 := by
        refine ⟨⟨fun b o hb e t => ?_, fun b l e => tupU b l (afE.fr.tup b l e)⟩, fun t => tabs_upd (afE.tabs t) eDE, fun p hp pp => ?_⟩
        · exact keepU b o (fun z => by rw [z, nD] at e; cases e) (afE.fr.keep b o hb e t)
        · obtain ⟨x1, x2, x3, e, h⟩ := afE.pot p hp pp
          exact ⟨x1, x2, x3, keepU _ _ (fun z => hDp (by rw [← z]; exact hp)) e, h⟩
      refine ⟨vs', eDE, ?_, n3, acc ++ [z], vs' ++ [u], afU, upd_same, ?_, by rw [List.length_append, List.length_singleton]; omega, pe⟩
      · rw [hl]
        have := pa.1
        rw [List.length_map] at hj2
        omega
      · rw [List.map_append]
        exact ImA.stab tupU _ _ _ (hAE.app (.cons iy .nil rfl)) fun b hb => absurd hb List.not_mem_nil
  · rintro HA ⟨n', acc, vs', af, eD, hA, hacc, pl⟩
    rw [hlen, List.drop_length, lcW_nil] at pl
    have st2 := st1.af af
    exact q ⟨acc⟩ n' _ HA [D] pl af (.lst eD hA rfl) (fp_new st1 ⟨List.nodup_cons.mpr ⟨List.not_mem_nil, List.nodup_nil⟩, fun x hx => by rw [List.mem_singleton.mp hx]; exact nD⟩)
end
section
variable {K : PySem.W.Frag} {T : List (Addr × Str)} {ρ : List Sl}
variable {α β γ : Type} [Enc α] [Enc β] [Enc γ]
def zip3F (xs : List α) (ys : List β) (zs : List γ) : List (T3 α β γ) := ((xs.zip ys).zip zs).map fun t => ⟨t.1.1, t.1.2, t.2⟩
theorem zip3_get {xs : List α} {ys : List β} {zs : List γ} {i : Nat} {x : α} {y : β} {z : γ} (h1 : xs[i]? = some x) (h2 : ys[i]? = some y) (h3 : zs[i]? = some z) : (zip3F xs ys zs)[i]? = some ⟨x, y, z⟩ := by
  unfold zip3F
  rw [List.getElem?_map]
  have : ((xs.zip ys).zip zs)[i]? = some ((x, y), z) := by
    rw [List.getElem?_zip_eq_some]
    exact ⟨by rw [List.getElem?_zip_eq_some]; exact ⟨h1, h2⟩, h3⟩
  rw [this]
  rfl
theorem zip3_len {xs : List α} {ys : List β} {zs : List γ} : (zip3F xs ys zs).length = min (min xs.length ys.length) zs.length := by
  unfold zip3F
  rw [List.length_map, List.length_zip, List.length_zip]
/-- as many turns as the shortest has -/
theorem ri_zip3 [Pu α] [Pu β] [Pu γ] {t u v : TE} {m : M (List α)} {m2 : M (List β)} {m3 : M (Lst γ)} {f1 f2 : Bool} (h : RE K T t ρ f1 m) (h2 : RE K T u ρ f2 m2) (h3 : RE K T v ρ true m3) : RI K T (iZip3 K (tCons t (tCons u (tCons v tNil)))) ρ (fun n P => m n fun xs n1 => m2 n1 fun ys n2 => m3 n2 fun zs n3 => P (zip3F xs ys zs.l) n3) := fun Bs po φ σ H n st P p R q =>
  h Bs po φ σ H n st _ p _ fun xs n1 v1 H1 fp pa a1 i1 g1 => h2 Bs po φ σ H1 n1 (st.af a1) _ pa _ fun ys n2 v2 H2 fq pb a2 i2 g2 => h3 Bs po φ σ H2 n2 ((st.af a1).af a2) _ pb _ fun zs n3 v3 H3 fr pc a3 i3 g3 => by
  have pd := pc
  have i1 := (i1.af g1.1 a2.fr).af g1.1 a3.fr
  have i2 := i2.af g2.1 a3.fr
  obtain ⟨a, vs, rfl, hT, hA⟩ := im_tup i1
  obtain ⟨b, ws, rfl, hT2, hA2⟩ := im_tup i2
  obtain ⟨c, us, f3, rfl, hT3, hA3, e3⟩ := im_lst i3
  have z3 := ima_pu hA3
  subst z3 e3
  have k1 := hA.len
  have k2 := hA2.len
  have k3 := hA3.len
  rw [List.length_map] at k1 k2 k3
  have g3' := Fp.back (a1.trans a2).fr g3
  refine ⟨a, b, c, vs, ws, us, rfl, hT.q, hT2.q, .inl (.inl hT3), q (zip3F xs ys zs.l) n3 _ H3 [c] pd ((a1.trans a2).trans a3) ⟨⟨fun H => (TupR H a vs ∧ ImA K H vs (xs.map enc) fp) ∧ (TupR H b ws ∧ ImA K H ws (ys.map enc) fq) ∧ H c = some (.lst us) ∧ ImA K H us (zs.l.map enc) [], _, (walk_zip3 (n := (zip3F xs ys zs.l).length) (by rw [zip3_len, k1, k2, k3])).mono (fun H g => ⟨g.1.1.q, g.2.1.1.q, .inl (.inl g.2.2.1)⟩) (fun i H x H' _ _ y => y), ⟨⟨hT, hA⟩, ⟨hT2, hA2⟩, hT3, hA3⟩, fun H H' hl ht _ g => ⟨⟨ht _ _ g.1.1, ima_stay g.1.2 ht⟩, ⟨ht _ _ g.2.1.1, ima_stay g.2.1.2 ht⟩, hl c List.mem_cons_self _ g.2.2.1, ima_stay g.2.2.2 ht⟩, fun i H x H' hi g y => ?_⟩, fun b hb => by rw [List.mem_singleton.mp hb]; exact ⟨_, hT3⟩⟩ (fun b hb => by rw [List.mem_singleton.mp hb]; exact g3.1 _ List.mem_cons_self) fun b hb => .inr (by rw [List.mem_singleton.mp hb]; exact (g3'.2 rfl).2 _ List.mem_cons_self)⟩
  obtain ⟨Tp, vx, vy, vz, rfl, nT, rfl, ex, ey, ez⟩ := y
  rw [zip3_len] at hi
  obtain ⟨x, q1, q2⟩ := yat_im g.1.2 (by omega) ex
  obtain ⟨y, q3, q4⟩ := yat_im g.2.1.2 (by omega) ey
  obtain ⟨z, q5, q6⟩ := yat_im g.2.2.2 (by omega) ez
  have s := same_new (Same.refl H) nT (o := .tup [vx, vy, vz])
  exact ⟨⟨x, y, z⟩, zip3_get q1 q3 q5, s, .tup upd_same (.cons (q2.same s) (.cons (q4.same s) (.cons (q6.same s) .nil rfl) rfl) rfl)⟩
theorem ri_zip3B [Pu α] [Pu β] [Pu γ] {t u : TE} {m : M (List α)} {m2 : M (List β)} {k : Nat} {zs : Lst γ} {f1 f2 : Bool} (h : RE K T t ρ f1 m) (h2 : RE K T u ρ f2 m2) (h3 : ρ[k]? = some (.bor (enc zs))) : RI K T (iZip3 K (tCons t (tCons u (tCons (tVar k) tNil)))) ρ (fun n P => m n fun xs n1 => m2 n1 fun ys n2 => P (zip3F xs ys zs.l) n2) := fun Bs po φ σ H n st P p R q =>
  h Bs po φ σ H n st _ p _ fun xs n1 v1 H1 fp pa a1 i1 g1 => h2 Bs po φ σ H1 n1 (st.af a1) _ pa _ fun ys n2 v2 H2 fq pb a2 i2 g2 => by
  have pd := pb
  have i1 := i1.af g1.1 a2.fr
  have st2 := (st.af a1).af a2
  obtain ⟨v3, e3a, i3, e3b⟩ := st2.sl k _ h3
  obtain ⟨a, vs, rfl, hT, hA⟩ := im_tup i1
  obtain ⟨b, ws, rfl, hT2, hA2⟩ := im_tup i2
  obtain ⟨c, us, f3, rfl, hT3, hA3, e3⟩ := im_lst i3
  have z3 := ima_pu hA3
  subst z3
  have hc : c ∈ φ k := by rw [e3]; exact List.mem_cons_self
  have k1 := hA.len
  have k2 := hA2.len
  have k3 := hA3.len
  rw [List.length_map] at k1 k2 k3
  refine ⟨_, e3a, a, b, c, vs, ws, us, rfl, hT.q, hT2.q, .inl (.inl hT3), q (zip3F xs ys zs.l) n2 _ H2 [c] pd (a1.trans a2) ⟨⟨fun H => (TupR H a vs ∧ ImA K H vs (xs.map enc) fp) ∧ (TupR H b ws ∧ ImA K H ws (ys.map enc) fq) ∧ H c = some (.lst us) ∧ ImA K H us (zs.l.map enc) [], _, (walk_zip3 (n := (zip3F xs ys zs.l).length) (by rw [zip3_len, k1, k2, k3])).mono (fun H g => ⟨g.1.1.q, g.2.1.1.q, .inl (.inl g.2.2.1)⟩) (fun i H x H' _ _ y => y), ⟨⟨hT, hA⟩, ⟨hT2, hA2⟩, hT3, hA3⟩, fun H H' hl ht _ g => ⟨⟨ht _ _ g.1.1, ima_stay g.1.2 ht⟩, ⟨ht _ _ g.2.1.1, ima_stay g.2.1.2 ht⟩, hl c List.mem_cons_self _ g.2.2.1, ima_stay g.2.2.2 ht⟩, fun i H x H' hi g y => ?_⟩, fun b hb => by rw [List.mem_singleton.mp hb]; exact ⟨_, hT3⟩⟩ (fun b hb => by rw [List.mem_singleton.mp hb]; exact (e3b c hc).1) fun b hb => .inl (by rw [List.mem_singleton.mp hb]; exact (e3b c hc).2)⟩
  obtain ⟨Tp, vx, vy, vz, rfl, nT, rfl, ex, ey, ez⟩ := y
  rw [zip3_len] at hi
  obtain ⟨x, q1, q2⟩ := yat_im g.1.2 (by omega) ex
  obtain ⟨y, q3, q4⟩ := yat_im g.2.1.2 (by omega) ey
  obtain ⟨z, q5, q6⟩ := yat_im g.2.2.2 (by omega) ez
  have s := same_new (Same.refl H) nT (o := .tup [vx, vy, vz])
  exact ⟨⟨x, y, z⟩, zip3_get q1 q3 q5, s, .tup upd_same (.cons (q2.same s) (.cons (q4.same s) (.cons (q6.same s) .nil rfl) rfl) rfl)⟩
end
end Bf
namespace Bf
open PySem PySem.Spec PyProof.Rows L2 LamX NdefX
/-! ## xs[::e], e one of 1, -1; list(d); chained comparisons of whole numbers -/
theorem pick_one (items : Array Value) : slicePick items none none (some 1) = items.toList.toArray := by
  have e : slicePick items none none (some 1) = slicePick items none none none := rfl
  rw [e, PySem.W.kms_pick_eq]
  congr 1
  show List.take (PySem.W.kms_hi none items.toList.length - PySem.W.kms_lo none items.toList.length) (List.drop (PySem.W.kms_lo none items.toList.length) items.toList) = items.toList
  rw [show PySem.W.kms_lo none items.toList.length = 0 from rfl, show PySem.W.kms_hi none items.toList.length = items.toList.length from rfl, List.drop_zero, Nat.sub_zero, List.take_length]
def tStepL (K : PySem.W.Frag) (te : TE) (ts : TO') : TE := fun σ H Q => te σ H fun x H1 => ts σ H1 fun o H2 => ∃ a xs, x = .ref a ∧ SqL K H2 a xs ∧ ((o = some 1 ∧ ∀ p, H2 p = none → Q (.ref p) (upd H2 p (.lst xs))) ∨ (o = some (-1) ∧ ∀ p, H2 p = none → Q (.ref p) (upd H2 p (.lst xs.reverse))))
theorem pe_stepL {X : Cx} {e st : Expr} {te : TE} {ts : TO'} {p3 pos : Pos} (he : PE X e te) (hst : PO X (some st) ts) (hsub : ∀ ov iv, subscripted (.Slice none none (some st) p3) false ov iv = operate [ov, iv] (getItem ov iv) := by intro _ _; rfl) :
    PE X (.Subscript e (.Slice none none (some st) p3) pos) (tStepL X.K te ts) := by
  refine ⟨fun pins s σ H Q I h => ?_⟩
  refine Subscript_ (thn (he.run pins s σ H _ I h) fun v s1 ⟨x, H1, I1, r1, q1⟩ => ?_)
  refine wpAny_Slice (thn (po_none.run pins s1 σ H1 (fun o H2 => o = none ∧ H2 = H1) I1 ⟨rfl, rfl⟩) fun vl s2 ⟨l, H2, I2, pl, el, e2⟩ => ?_)
  subst el e2
  refine thn (po_none.run pins s2 σ H2 (fun o H3 => o = none ∧ H3 = H2) I2 ⟨rfl, rfl⟩) fun vu s3 ⟨u, H3, I3, pu, eu, e3⟩ => ?_
  subst eu e3
  refine thn (hst.run pins s3 σ H3 _ I3 q1) fun vs s4 ⟨o, H4, I4, ps, a, xs, ex, hx, q⟩ => ?_
  subst ex
  cases r1
  have I5 : Inv X pins σ H4 { s4 with heap := s4.heap.push { cls := .type "slice", data := .fields #[vl, vu, vs] } } := I4.kept (t' := s4.toks) fun b ob q => Heap.get?_push_of_some _ q
  obtain ⟨its, r, ht, hz⟩ := I5.list hx
  have hlen := r.length
  have h0 : o ≠ some 0 := by
    rcases q with ⟨q, _⟩ | ⟨q, _⟩ <;> (rw [q]; decide)
  show wpAny (model X.prog X.w) X.A (subscriptTail e (.Slice none none (some st) p3) (.ref a) (.ref s4.heap.objs.size)) (EP X pins σ Q) X.xe { s4 with heap := s4.heap.push { cls := .type "slice", data := .fields #[vl, vu, vs] } }
  refine tail_any (ops := [.ref a, .ref s4.heap.objs.size]) ht.isList.typeIs (PySem.slot_list_getitem.lookup) ?_ (hsub _ _)
  refine wpAny_getItem_list_slice ht.isList (Heap.IsSliceOf.new _ vl vu vs) pl pu ps h0 ?_ (by rw [List.size_toArray]; omega)
  rcases q with ⟨rfl, q⟩ | ⟨rfl, q⟩
  · rw [pick_one]
    refine ⟨.ref _, _, I5.laid (t' := s4.toks) (o := .lst xs) (fun b ob q => Heap.get?_push_of_some _ q) (Nat.le_refl _) ?_, rfl, q _ (I5.hok.fresh (Nat.le_refl _))⟩
    exact ⟨hz, _, 0, r, Heap.get?_push_size _ rfl⟩
  · rw [PySem.W.krv_pick]
    refine ⟨.ref _, _, I5.laid (t' := s4.toks) (o := .lst xs.reverse) (fun b ob q => Heap.get?_push_of_some _ q) (Nat.le_refl _) ?_, rfl, q _ (I5.hok.fresh (Nat.le_refl _))⟩
    exact ⟨by rw [List.length_reverse]; exact hz, _, 0, r.reverse, Heap.get?_push_size _ rfl⟩
section
variable {K : PySem.W.Frag} {T : List (Addr × Str)} {ρ : List Sl}
variable {κ α β : Type} [Enc κ] [Enc α] [Enc β] [TK κ]
/-- a list, as it is or from behind -/
theorem re_stepL [Pu α] {t : TE} {ts : TO'} {m : M (Lst α)} {ms : M (Option Int)} {f : Bool} (h : RE K T t ρ f m) (hs : RO K T ts ρ ms) : RE K T (tStepL K t ts) ρ true (fun n P => m n fun xs n1 => ms n1 fun o n2 => (o = some 1 ∧ P xs n2) ∨ (o = some (-1) ∧ P (⟨xs.l.reverse⟩ : Lst α) n2)) := fun Bs po φ σ H n st P p Q q =>
  h Bs po φ σ H n st _ p _ fun xs n1 v H1 fp pa a1 i1 g1 => hs Bs po φ σ H1 n1 (st.af a1) _ pa _ fun o n2 H2 pb a2 => by
    have i2 := i1.af g1.1 a2.fr
    obtain ⟨a, vs, fq, rfl, hT, hA, e⟩ := im_lst i2
    have z := ima_pu hA
    subst z
    have af := a1.trans a2
    refine ⟨a, vs, rfl, .inl (.inl hT), ?_⟩
    rcases pb with ⟨ho, pb⟩ | ⟨ho, pb⟩
    · refine .inl ⟨ho, fun w nw => ?_⟩
      have s := same_new (Same.refl H2) nw (o := .lst vs)
      exact q xs n2 _ _ [w] pb (af.trans (Af.same s)) (.lst upd_same (hA.same s) rfl) (Fp.back af.fr (fp_new (st.af af) ⟨List.nodup_cons.mpr ⟨List.not_mem_nil, List.nodup_nil⟩, fun x hx => by rw [List.mem_singleton.mp hx]; exact nw⟩))
    · refine .inr ⟨ho, fun w nw => ?_⟩
      have s := same_new (Same.refl H2) nw (o := .lst vs.reverse)
      refine q ⟨xs.l.reverse⟩ n2 _ _ [w] pb (af.trans (Af.same s)) (.lst upd_same ?_ rfl) (Fp.back af.fr (fp_new (st.af af) ⟨List.nodup_cons.mpr ⟨List.not_mem_nil, List.nodup_nil⟩, fun x hx => by rw [List.mem_singleton.mp hx]; exact nw⟩))
      have hA2 := hA.same s
      rw [List.map_reverse]
      have rev : ∀ {ds : List PyData} {us : List V}, ImA K (upd H2 w (.lst vs.reverse)) us ds [] → (∀ d ∈ ds, ∀ v f, Im K (upd H2 w (.lst vs.reverse)) v d f → f = []) → ImA K (upd H2 w (.lst vs.reverse)) us.reverse ds.reverse [] := by
        intro ds
        induction ds with
        | nil => intro us h _; cases h; exact .nil
        | cons d ds ih =>
          intro us h hp
          cases h with
          | cons h1 h2 q =>
            have z1 := hp d List.mem_cons_self _ _ h1
            subst z1
            rw [List.nil_append] at q
            subst q
            rw [List.reverse_cons, List.reverse_cons]
            exact (ih h2 fun e he => hp e (List.mem_cons_of_mem _ he)).app (.cons h1 .nil rfl)
      exact rev hA2 fun d hd v f h => by
        obtain ⟨x, _, rfl⟩ := List.mem_map.mp hd
        exact Pu.pu h
/-- list(d): the keys -/
def rLstD : List V → Hp → VK → Prop := fun xs H Q => ∃ d kvs, xs = [V.ref d] ∧ Rd H d (.dT kvs) ∧ ∀ p bs, H p = none → IsKeys H kvs bs → Q (.ref p) (upd H p (.lst (bs.map V.ref)))
theorem keys_im [Pu β] {H : Hp} : ∀ {kvs : List (List Key × V)} {l : List (κ × β)} {bs : List Addr}, Ents K H kvs l → IsKeys H kvs bs → ImA K H (bs.map V.ref) ((l.map Prod.fst).map enc) []
  | _, _, _, .nil, h => by cases h; exact .nil
  | _, _, _, .cons h1 h2, h => by
    cases h with
    | cons e r => exact .cons (TK.back e) (keys_im h2 r) rfl
theorem re_listD [Pu β] [Pu κ] {i : Nat} {d : Dct κ β} (hi : ρ[i]? = some (.own (enc d))) : RE K T (tCB rLstD (tCons (tVar i) tNil)) ρ true (retW (⟨d.l.map Prod.fst⟩ : Lst κ)) := fun Bs po φ σ H n st P p Q q => by
  obtain ⟨v, e1, e2, e3, e4⟩ := st.sl i _ hi
  obtain ⟨a, kvs, rfl, hT, hE, eφ⟩ := im_dct e2
  refine ⟨_, e1, a, kvs, rfl, .inl hT, fun w bs nw hk => ?_⟩
  have s := same_new (Same.refl H) nw (o := .lst (bs.map V.ref))
  exact q _ n _ _ [w] p (Af.same s) (.lst upd_same ((keys_im hE hk).same s) rfl) (fp_new st ⟨List.nodup_cons.mpr ⟨List.not_mem_nil, List.nodup_nil⟩, fun x hx => by rw [List.mem_singleton.mp hx]; exact nw⟩)
/-- a chained comparison of whole numbers -/
def chZ (f g : Int → Int → Bool) (ma mb mc : M Int) : M Bool := bindW ma fun a => bindW mb fun b => if f a b = true then bindW mc fun c => retW (g b c) else retW false
theorem re_chainZ {ta tb tc : TE} {ma mb mc : M Int} {f g : Int → Int → Bool} {r r' : R2} {f1 f2 f3 : Bool} (hr : OpW K r fun a b : Int => retW (f a b)) (hr' : OpW K r' fun a b : Int => retW (g a b)) (ha : RE K T ta ρ f1 ma) (hb : RE K T tb ρ f2 mb) (hc : RE K T tc ρ f3 mc) :
    RE K T (tChain r r' ta tb tc) ρ true (chZ f g ma mb mc) := fun Bs po φ σ H n st P p Q q =>
  ha Bs po φ σ H n st _ p _ fun a n1 v H1 fp pa a1 i1 g1 => hb Bs po φ σ H1 n1 (st.af a1) _ pa _ fun b n2 w H2 fq pb a2 i2 g2 => by
    cases i1
    cases i2
    refine hr a b H2 _ _ [] [] (.int _) (.int _) n2 (fun c n' => c = f a b ∧ n' = n2) ⟨rfl, rfl⟩ _ fun c H3 v' fr pc s3 i3 g3 => ?_
    obtain ⟨rfl, -⟩ := pc
    cases i3
    refine ⟨_, rfl, ?_⟩
    have a3 : Af K T po H n H3 n2 := (a1.trans a2).trans (Af.same s3)
    cases e : f a b with
    | false =>
      rw [if_neg (by decide)]
      dsimp only at pb
      rw [e, if_neg (by decide)] at pb
      exact q false n2 _ H3 [] pb a3 (.bl _) Fp.nil
    | true =>
      rw [if_pos rfl]
      dsimp only at pb
      rw [e, if_pos rfl] at pb
      refine hc Bs po φ σ H3 n2 (st.af a3) _ pb _ fun c n4 u H4 fr4 pd a4 i4 g4 => ?_
      cases i4
      refine hr' b c H4 _ _ [] [] (.int _) (.int _) n4 _ pd _ fun c2 H5 v5 fr5 p5 s5 i5 g5 => ?_
      cases i5
      exact q c2 n4 _ H5 [] p5 ((a3.trans a4).trans (Af.same s5)) (.bl _) Fp.nil
/-- a power written out -/
theorem re_pow {a b c : Nat} (h : (Builtin.Int.intBits (a : Int) : Int) * (b : Int) ≤ 2 ^ 27) (e : a ^ b = c) : RE K T (tOp (rI (fun i j => 0 ≤ j ∧ (Builtin.Int.intBits i : Int) * j ≤ 2 ^ 27) fun i j => .int (i ^ j.toNat)) (tC (.int ((a : Nat) : Int))) (tC (.int ((b : Nat) : Int)))) ρ true (retW c) := fun Bs po φ σ H n st P p Q q => by
  refine ⟨(a : Int), (b : Int), rfl, rfl, ⟨Int.natCast_nonneg b, h⟩, ?_⟩
  have e2 : ((a : Int)) ^ ((b : Int)).toNat = ((c : Nat) : Int) := by
    rw [← e, Int.toNat_natCast, Int.natCast_pow]
  show Q (.int ((a : Int) ^ ((b : Int)).toNat)) H
  rw [e2]
  exact q c n _ H [] p Af.refl (.int _) Fp.nil
end
end Bf
namespace Bf
open PySem PySem.Spec PyProof.Rows L2 LamX NdefX
/-! ## sum(list): numbers, or numbers where None might stand -/
section
variable {K : PySem.W.Frag}
theorem ima_somes {H : Hp} : ∀ {ns : List Nat} {vs : List V} {fp : List Addr}, ImA K H vs ((ns.map some).map (enc : Option Nat → PyData)) fp → vs = (ns.map fun n : Nat => (n : Int)).map V.int
  | [], _, _, h => by cases h; rfl
  | x :: xs, _, _, h => by
    cases h with
    | cons a b q =>
      cases a
      rw [ima_somes b]
      rfl
theorem sum_cast (ns : List Nat) : ((ns.map fun n : Nat => (n : Int)).sum : Int) = ((ns.sum : Nat) : Int) := by
  induction ns with
  | nil => rfl
  | cons a b ih => rw [List.map_cons, List.sum_cons, ih, List.sum_cons]; omega
theorem uw_sumO : UnW K (fun x => rSum K [x]) (fun (xs : Lst (Option Nat)) n P => ∃ ns : List Nat, xs.l = ns.map some ∧ P ns.sum n) := unw_pure fun xs H v fp i1 n P p => by
  obtain ⟨ns, e, p⟩ := p
  obtain ⟨a, vs, _, rfl, hT, hA, _⟩ := im_lst i1
  have hA : ImA K H vs (xs.l.map enc) _ := hA
  rw [e] at hA
  rw [ima_somes hA] at hT
  exact ⟨_, .int ((ns.sum : Nat) : Int), p, .int _, fun Q q => ⟨a, _, rfl, .inl (.inl hT), by rw [sum_cast]; exact q⟩⟩
theorem uw_sumN : UnW K (fun x => rSum K [x]) (fun xs : Lst Nat => retW xs.l.sum) := unw_pure fun xs H v fp i1 n P p => by
  obtain ⟨a, vs, f1, rfl, hT, hA, _⟩ := im_lst i1
  have hA : ImA K H vs (xs.l.map enc) f1 := hA
  have hA : ImA K H vs ((xs.l.map some).map (enc : Option Nat → PyData)) f1 := by rw [enc_somes]; exact hA
  rw [ima_somes hA] at hT
  exact ⟨_, .int ((xs.l.sum : Nat) : Int), p, .int _, fun Q q => ⟨a, _, rfl, .inl (.inl hT), by rw [sum_cast]; exact q⟩⟩
end
end Bf
namespace Bf
open PySem PySem.Spec PyProof.Rows L2 LamX NdefX
/-! ## how many unlike ones -/
def ddA {α : Type} [DecidableEq α] : List α → List α
  | [] => []
  | x :: xs => if x ∈ ddA xs then ddA xs else x :: ddA xs
section
variable {α : Type} [DecidableEq α]
theorem ddA_mem {x : α} : ∀ {xs : List α}, x ∈ ddA xs ↔ x ∈ xs
  | [] => Iff.rfl
  | y :: xs => by
    unfold ddA
    by_cases h : y ∈ ddA xs
    · rw [if_pos h, ddA_mem, List.mem_cons]
      exact ⟨.inr, fun z => z.elim (fun e => e ▸ ddA_mem.mp h) id⟩
    · rw [if_neg h, List.mem_cons, List.mem_cons, ddA_mem]
theorem ddA_nd : ∀ xs : List α, (ddA xs).Nodup
  | [] => List.nodup_nil
  | y :: xs => by
    unfold ddA
    by_cases h : y ∈ ddA xs
    · rw [if_pos h]
      exact ddA_nd xs
    · rw [if_neg h]
      exact List.nodup_cons.mpr ⟨h, ddA_nd xs⟩
theorem ddA_le : ∀ xs : List α, (ddA xs).length ≤ xs.length
  | [] => Nat.le_refl _
  | y :: xs => by
    have := ddA_le xs
    unfold ddA
    by_cases h : y ∈ ddA xs
    · rw [if_pos h, List.length_cons]
      omega
    · rw [if_neg h, List.length_cons, List.length_cons]
      omega
theorem ddA_self : ∀ {xs : List α}, xs.Nodup → ddA xs = xs
  | [], _ => rfl
  | y :: xs, nd => by
    have nd := List.nodup_cons.mp nd
    unfold ddA
    rw [ddA_self nd.2, if_neg nd.1]
theorem ddA_full : ∀ {xs : List α}, (ddA xs).length = xs.length → xs.Nodup
  | [], _ => List.nodup_nil
  | y :: xs, e => by
    have := ddA_le xs
    unfold ddA at e
    by_cases h : y ∈ ddA xs
    · rw [if_pos h, List.length_cons] at e
      omega
    · rw [if_neg h, List.length_cons, List.length_cons] at e
      exact List.nodup_cons.mpr ⟨fun z => h (ddA_mem.mpr z), ddA_full (by omega)⟩
theorem ddA_iff {xs : List α} : (ddA xs).length = xs.length ↔ xs.Nodup := ⟨ddA_full, fun h => by rw [ddA_self h]⟩
theorem nd_le : ∀ {l m : List α}, l.Nodup → (∀ x ∈ l, x ∈ m) → l.length ≤ m.length
  | [], _, _, _ => Nat.zero_le _
  | x :: l, m, nd, h => by
    have nd := List.nodup_cons.mp nd
    have hx := h x List.mem_cons_self
    have := nd_le (l := l) (m := m.erase x) nd.2 fun y hy => by
      have hy2 := h y (List.mem_cons_of_mem _ hy)
      exact (List.mem_erase_of_ne (fun e : y = x => nd.1 (by rw [← e]; exact hy))).mpr hy2
    rw [List.length_erase_of_mem hx] at this
    have hp := List.length_pos_of_mem hx
    rw [List.length_cons]
    omega
theorem nd_eq {l m : List α} (h1 : l.Nodup) (h2 : m.Nodup) (h : ∀ x, x ∈ l ↔ x ∈ m) : l.length = m.length := Nat.le_antisymm (nd_le h1 fun x hx => (h x).mp hx) (nd_le h2 fun x hx => (h x).mpr hx)
end
/-! ### set of a tuple of tuples of whole numbers -/
section
variable {P : Program} {w : World} {A : Around} {E : Value → Shared → Prop} {s : Shared}
structure FilledT (P : Program) (w : World) (S : Addr) (ks : List (Addr × List Int)) (s s' : Shared) : Prop where
  set : ∃ L, SetT0 P w s'.heap S L ∧ Got ks ks.length L
  keep : ∀ b o, b ≠ S → s.heap.get? b = some o → s'.heap.get? b = some o
  gens : s'.gens = s.gens
  drawn : s'.drawn = s.drawn
  os : s'.os = s.os
theorem fillT_init {S tu : Addr} {items : Array Value} (ks : List (Addr × List Int)) {h0 : Heap} {Q : PySem.Fin → Shared → Prop} (hh : A.handled = none) (hu : A.units + 3 < cLine) (hSl : S ≠ tu) (hS : s.heap.get? S = some (bare w)) (hlast : s.heap.objs.size = S + 1) (hl : s.heap.IsTuple tu items) (hit : items.toList = ks.map fun p => Value.ref p.1) (hfew : ks.length < 64)
    (hb : h0.objs.size = S) (hk0 : ∀ b o, h0.get? b = some o → s.heap.get? b = some o) (hk : ∀ p ∈ ks, IsT P w h0 p.2 p.1) (h : ∀ s', FilledT P w S ks s s' → Q (.done (.ret .none)) s') : wpAny (model P w) A (Builtin.«set.__init__» ⟨[.ref S, .ref tu], []⟩) Q E s := by
  obtain ⟨⟨oc, od, dat, sl⟩, hol, hcl, nl, hdl⟩ := id hl
  dsimp only at hcl hdl
  subst hcl hdl
  have n1 := PySem.F.sub_tuple_set
  have n2 := PySem.F.sub_tuple_frozenset
  have n3 : (Value.type "tuple" == Value.type "dict") = false := by decide
  have n4 := sub_set_self
  have hSlt := Heap.lt_size hS
  have hllt := Heap.lt_size hol
  have hisz : items.size = ks.length := by
    have q := congrArg List.length hit
    rw [Array.length_toList, List.length_map] at q
    exact q
  have hval : ∀ (i : Nat) (v : Value), items[i]? = some v → ∃ p, ks[i]? = some p ∧ v = .ref p.1 := fun i v hv => by
    have q : items.toList[i]? = some v := by rw [Array.getElem?_toList]; exact hv
    rw [hit, List.getElem?_map] at q
    cases hq : ks[i]? with
    | none => rw [hq] at q; cases q
    | some p =>
      rw [hq] at q
      exact ⟨p, rfl, (Option.some.inj q).symm⟩
  have none_of : ∀ b, S ≤ b → h0.get? b = none := fun b hb2 => by
    cases q : h0.get? b with
    | none => rfl
    | some o => exact absurd (Nat.lt_of_lt_of_le (Heap.lt_size q) (by rw [hb]; exact hb2)) (Nat.lt_irrefl _)
  unfold Builtin.«set.__init__» noKeywords Builtin.Frozenset.updateFrom
  generalize hPI : pyIter = PI
  wp_walk
  subst hPI
  refine wpAny_pyIter_tuple hl (wpAny_bind (wpAny_runValue ?_))
  have hl1 := hl.push { cls := .type "tuple_iterator", data := .fields #[.ref tu, .int 0 0] }
  have hS1 : (s.heap.push { cls := .type "tuple_iterator", data := .fields #[.ref tu, .int 0 0] }).get? S = some (bare w) := Heap.get?_push_of_some _ hS
  refine set_update_tups ((Walks.tuple (by simp [hh]) s.heap.objs.size tu (Nat.ne_of_lt hllt) items).toS) S (by simp only [List.mem_cons, List.mem_singleton, List.not_mem_nil, or_false, not_or]; exact ⟨Nat.ne_of_lt hSlt, hSl⟩) ks hisz hfew hval h0 hk (none_of S (Nat.le_refl _)) (fun b hb2 => none_of b (by rw [List.mem_singleton.mp hb2]; exact Nat.le_of_lt hSlt)) (by first | exact hu | (simp; omega)) (items.size - 0) 0 _ (by omega) (Nat.zero_le _)
    ⟨⟨_, Heap.get?_push_size _ rfl, rfl, rfl⟩, hl1⟩ (fun b o e => Heap.get?_push_of_some _ (hk0 b o e)) ⟨[], _, _, _, setTR_fresh hS1, Got.zero ks⟩ fun s' L es ep t hm R g _ => ?_
  rw [hisz] at g
  refine wpAny_pure (wpAny_pure (h s' ⟨⟨L, R.t0, g⟩, fun b o hbS e => ?_, hm.gens, hm.drawn, hm.os⟩))
  refine hm.heap b o ?_ (Heap.get?_push_of_some _ e)
  simp only [List.mem_cons, List.mem_singleton, List.not_mem_nil, or_false, not_or]
  exact ⟨hbS, Nat.ne_of_lt (Heap.lt_size e)⟩
theorem setT_call {tu : Addr} {items : Array Value} (ks : List (Addr × List Int)) {Q : Value → Shared → Prop} (hh : A.handled = none) (hu : A.units + 8 < cLine) (hl : s.heap.IsTuple tu items) (hit : items.toList = ks.map fun p => Value.ref p.1) (hfew : ks.length < 64) (hk : ∀ p ∈ ks, IsT P w s.heap p.2 p.1)
    (h : ∀ s', FilledT P w s.heap.objs.size ks (withBare w s) s' → Q (.ref s.heap.objs.size) s') : wpAny (model P w) A (call (.type "set") [.ref tu]) Q E s := by
  obtain ⟨ol, hol, _⟩ := id hl
  have hlt := Heap.lt_size hol
  have m1 := PySem.F.called_set.mro
  obtain ⟨c, tl, hmro⟩ := m1
  have m2 := PySem.F.called_set.made
  have m3 := PySem.F.called_set.sub
  have m4 := PySem.F.called_set.notType
  have m5 := PySem.F.called_set.canCreate
  have m6 := PySem.F.typeCall_set_1 (.ref tu)
  have m7 := PySem.F.called_set.init.lookup
  have m8 := PySem.F.called_set.init.bind (.ref s.heap.objs.size)
  have hS : (withBare w s).heap.get? s.heap.objs.size = some (bare w) := Heap.get?_push_size _ rfl
  have hT : Shared.TypeIs (withBare w s) (.ref s.heap.objs.size) "set" := ⟨_, hS, rfl⟩
  refine wpAny_call (codeAny_of_tree (wpAny_pure ⟨Code.quiet_builtin _ (by decide +kernel), codeAny_builtin PySem.F.entry_type_call ?_⟩))
  rw [Around.under_plain (weight_type_call_type "set" [.ref tu] []) rfl]
  repeat (any_goals (first | assumption | wp_step))
  refine codeAny_mono (L2.code_set_led1 (.ref tu) (E := E) (Q₁ := fun obj s₁ => obj = .ref s.heap.objs.size ∧ s₁ = withBare w s) ⟨rfl, rfl⟩) fun r s₁ hr => ?_
  match r, s₁, hr with
  | .ok (.ret _), _, ⟨rfl, rfl⟩ =>
    repeat (any_goals (first | assumption | wp_step))
    refine codeAny_mono (codeAny_call_builtin (R := wants (fun r s₂ => r = .none ∧ FilledT P w s.heap.objs.size ks (withBare w s) s₂) E) PySem.F.called_set.init.plain PySem.F.entry_set_init (check_set_init_1 hT ?_)) fun r₂ s₂ hr₂ => ?_
    · exact fillT_init ks (h0 := s.heap) (by simp [hh]) (by first | (simp; omega) | omega) (Nat.ne_of_gt hlt) hS (Heap.size_push ..) (hl.push _) hit hfew rfl (fun b o e => Heap.get?_push_of_some _ e) hk fun s' hf => ⟨rfl, hf⟩
    · match r₂, s₂, hr₂ with
      | .ok (.ret _), _, ⟨rfl, hf⟩ =>
        repeat (any_goals (first | assumption | wp_step))
        exact h _ hf
      | .error e, _, hr₂ => exact hr₂
  | .error e, _, hr => exact hr
end
section
variable {X : Cx}
/-- set of many whole numbers -/
def rSetM (K : PySem.W.Frag) (w : World) : List V → Hp → VK → Prop := fun xs H Q => ∃ (l : Addr) (ns : List Int), xs = [.ref l] ∧ (SqL K H l (ns.map V.int) ∨ SqT K H l (ns.map V.int)) ∧ ns.length ≤ 4000 ∧ ∀ a c, H a = none → c ≤ ns.length → Q (.ref a) (upd H a (SetO w a (fun j => decide (j ∈ ns)) c))
theorem cr_setM (hc : X.calm = true) : CallR X (.type "set") (rSetM X.K X.w) := by
  intro pins s σ H xs us Q I r h
  obtain ⟨l, ns, rfl, hq, hn, q⟩ := h
  obtain ⟨u, rfl, ru⟩ := vals1 r
  cases ru
  rcases hq with hq | hq
  · obtain ⟨its, rv, pl, hz⟩ := I.list hq
    refine set_call (I.ok.hd hc) pl.isList (by simpa using RZ.intsAre_vals rv) (by unfold scanBound; omega) fun s' hf => ?_
    obtain ⟨⟨c, hc1, hR⟩, hk, e1, e2, e3⟩ := hf
    obtain ⟨h', g', d', t', o'⟩ := s'
    dsimp only at hR hk e1 e2 e3
    subst e1 e2 e3
    exact ⟨.ref _, upd H s.heap.objs.size (SetO X.w s.heap.objs.size (fun j => decide (j ∈ ns)) c), I.laid (t' := t') (fun b u e => hk b u (Nat.ne_of_lt (Heap.lt_size e)) (Heap.get?_push_of_some _ e)) (Nat.le_refl _) (setO_new hR), rfl, q _ c (I.hok.fresh (Nat.le_refl _)) hc1⟩
  · obtain ⟨its, rv, pl, hz⟩ := I.tuple hq
    refine L2.call_set_tupI ns (I.ok.hd hc) pl (by simpa using RZ.intsAre_vals rv) (by unfold scanBound; omega) fun h' tk c hR hc1 hk => ?_
    exact ⟨.ref _, upd H s.heap.objs.size (SetO X.w s.heap.objs.size (fun j => decide (j ∈ ns)) c), I.laid (t' := tk) (fun b u e => hk b u e) (Nat.le_refl _) (setO_new hR), rfl, q _ c (I.hok.fresh (Nat.le_refl _)) hc1⟩
/-- set of a tuple of tuples of whole numbers -/
def rSetTT (K : PySem.W.Frag) (P : Program) (w : World) : List V → Hp → VK → Prop := fun xs H Q => ∃ (l : Addr) (ks : List (Addr × List Int)), xs = [V.ref l] ∧ SqT K H l (ks.map fun p => V.ref p.1) ∧ (∀ p ∈ ks, SqT K H p.1 (p.2.map V.int)) ∧ ks.length < 64 ∧
  ∀ a L, H a = none → (∀ p ∈ L, p ∈ ks) → (∀ p ∈ ks, p.2 ∈ L.map (·.2)) → Q (.ref a) (upd H a (SetTO P w a L))
theorem cr_setTT (hc : X.calm = true) (hu : X.A.units + 64 < cLine) : CallR X (.type "set") (rSetTT X.K X.prog X.w) := by
  intro pins s σ H xs us Q I r h
  obtain ⟨l, ks, rfl, hl, hk, hf, q⟩ := h
  rw [Vals.ref1 r]
  obtain ⟨its, rv, pl, hz⟩ := I.tuple hl
  have hn : H s.heap.objs.size = none := I.hok.fresh (Nat.le_refl _)
  refine setT_call (P := X.prog) (w := X.w) ks (I.ok.hd hc) (by omega) pl (by simpa using refs_of_vals rv) hf (fun p hp => I.isT (hk p hp)) fun s' hf => ?_
  obtain ⟨⟨L, hR, g⟩, hkk, e1, e2, e3⟩ := hf
  obtain ⟨h', g', d', t', o'⟩ := s'
  dsimp only at hR hkk e1 e2 e3
  subst e1 e2 e3
  refine ⟨.ref _, upd H s.heap.objs.size (SetTO X.prog X.w s.heap.objs.size L), I.laid (t' := t') (fun b u e => hkk b u (Nat.ne_of_lt (Heap.lt_size e)) (Heap.get?_push_of_some _ e)) (Nat.le_refl _) (setTO_new hR), rfl, q _ L hn (fun p hp => ?_) fun p hp => ?_⟩
  · exact List.mem_of_mem_take (g.sub p hp)
  · exact g.all p (by rw [List.take_length]; exact hp)
/-- len of a set of whole numbers, or of tuples of such -/
def rLenS (K : PySem.W.Frag) (P : Program) (w : World) : List V → Hp → VK → Prop := fun xs H Q => ∃ a, xs = [.ref a] ∧ ((∃ S c, ∃ ns : List Int, H a = some (SetO w a S c) ∧ ns.Nodup ∧ (∀ k, S k = true ↔ k ∈ ns) ∧ Q (.int (ns.length : Nat)) H) ∨ ∃ L : List (Addr × List Int), H a = some (SetTO P w a L) ∧ (∀ p ∈ L, SqT K H p.1 (p.2.map V.int)) ∧ ∀ n : Nat, (L.map (·.2)).Nodup → n = L.length → Q (.int n) H)
theorem cr_lenS : CallR X (.builtin "len") (rLenS X.K X.prog X.w) := by
  intro pins s σ H vs us Q I r h
  obtain ⟨a, rfl, h⟩ := h
  rw [Vals.ref1 r]
  rcases h with ⟨S, c, ns, ha, hnd, hS, q⟩ | ⟨L, ha, q⟩
  · obtain ⟨o, es, ep, t, ho, hex, hd, _, hnd2, hS2, hsz, hf, hn, _⟩ := setO_get I ha
    have e : es.size = ns.length := by
      have := nd_eq hnd2 hnd fun k => (hS2 k).symm.trans (hS k)
      rw [List.length_map, Array.length_toList] at this
      exact this
    refine call_len_set ho hex hd hf (by unfold scanBound at hsz; omega) ⟨.int (ns.length : Nat), H, I.tok _, ⟨_, by rw [e]⟩, q⟩
  · have R0 : SetT0 X.prog X.w s.heap a L := (I.hok a _ ha).1
    obtain ⟨hT, q⟩ := q
    obtain ⟨es, ep, t, R⟩ := R0.full fun p hp => I.isT (hT p hp)
    obtain ⟨o, ho, hex, hd⟩ := R.ob
    have e : es.size = L.length := R.size
    have hfew := R.few
    exact call_len_set ho hex hd R.fits (by omega) ⟨.int (L.length : Nat), H, I.tok _, ⟨_, by rw [e]⟩, q _ R.nd rfl⟩
end
end Bf
namespace Bf
open PySem PySem.Spec PyProof.Rows L2 LamX NdefX
/-! ## len(set(xs)) -/
section
variable {P : Program} {w : World} {K : PySem.W.Frag} {T : List (Addr × Str)} {ρ : List Sl}
theorem ddA_cast {xs : List Nat} {j : Int} : decide (j ∈ xs.map fun (n : Nat) => (n : Int)) = true ↔ j ∈ (ddA xs).map fun (n : Nat) => (n : Int) := by
  rw [decide_eq_true_iff, List.mem_map, List.mem_map]
  exact exists_congr fun n => and_congr_left fun _ => ddA_mem.symm
theorem cast_nd : ∀ {xs : List Nat}, xs.Nodup → (xs.map fun (n : Nat) => (n : Int)).Nodup
  | [], _ => List.nodup_nil
  | x :: xs, nd => by
    have nd := List.nodup_cons.mp nd
    rw [List.map_cons]
    refine List.nodup_cons.mpr ⟨fun h => ?_, cast_nd nd.2⟩
    obtain ⟨y, hy, e⟩ := List.mem_map.mp h
    have e : y = x := Int.ofNat.inj e
    exact nd.1 (e ▸ hy)
theorem re_lenSetT {t : TE} {m : M (List Nat)} {f : Bool} (h : RE K T t ρ f m) : RE K T (tCB (rLenS K P w) (tCons (tCB (rSetM K w) (tCons t tNil)) tNil)) ρ true (bindW m fun xs => reqW (xs.length ≤ 4000) (retW (ddA xs).length)) := fun Bs po φ σ H n st Q0 p Q q => h Bs po φ σ H n st _ p _ fun xs n1 v H1 fp pa a1 i1 g1 => by
  obtain ⟨a, rfl, hT⟩ := im_nv i1
  refine ⟨a, xs.map fun (n : Nat) => (n : Int), rfl, by rw [← nv_map]; exact .inr hT.q, by rw [List.length_map]; exact pa.1, fun b c nb hc => ?_⟩
  have s := same_new (Same.refl H1) nb (o := SetO w b (fun j => decide (j ∈ xs.map fun (n : Nat) => (n : Int))) c)
  refine ⟨b, rfl, .inl ⟨_, c, (ddA xs).map fun (n : Nat) => (n : Int), upd_same, cast_nd (ddA_nd xs), fun k => ddA_cast, ?_⟩⟩
  rw [List.length_map]
  exact q _ n1 _ _ [] pa.2 (a1.trans (Af.same s)) (.int _) Fp.nil
theorem re_lenSetL {t : TE} {m : M (Lst Nat)} {f : Bool} (h : RE K T t ρ f m) : RE K T (tCB (rLenS K P w) (tCons (tCB (rSetM K w) (tCons t tNil)) tNil)) ρ true (bindW m fun xs => reqW (xs.l.length ≤ 4000) (retW (ddA xs.l).length)) := fun Bs po φ σ H n st Q0 p Q q => h Bs po φ σ H n st _ p _ fun xs n1 v H1 fp pa a1 i1 g1 => by
  obtain ⟨a, rfl, hT⟩ := im_nvL i1
  refine ⟨a, xs.l.map fun (n : Nat) => (n : Int), rfl, by rw [← nv_map]; exact .inl (.inl (.inl hT)), by rw [List.length_map]; exact pa.1, fun b c nb hc => ?_⟩
  have s := same_new (Same.refl H1) nb (o := SetO w b (fun j => decide (j ∈ xs.l.map fun (n : Nat) => (n : Int))) c)
  refine ⟨b, rfl, .inl ⟨_, c, (ddA xs.l).map fun (n : Nat) => (n : Int), upd_same, cast_nd (ddA_nd xs.l), fun k => ddA_cast, ?_⟩⟩
  rw [List.length_map]
  exact q _ n1 _ _ [] pa.2 (a1.trans (Af.same s)) (.int _) Fp.nil
def castL (xs : List Nat) : List Int := xs.map fun (n : Nat) => (n : Int)
theorem castL_inj {xs ys : List Nat} (e : castL xs = castL ys) : xs = ys := by
  have := congrArg (List.map Int.toNat) e
  unfold castL at this
  rw [List.map_map, List.map_map] at this
  have f : (Int.toNat ∘ fun (n : Nat) => (n : Int)) = id := funext fun n => Int.toNat_natCast n
  rw [f, List.map_id, List.map_id] at this
  exact this
theorem rows_of {H : Hp} : ∀ {xs : List (List Nat)} {vs : List V} {fp : List Addr}, ImA K H vs (xs.map enc) fp → ∃ ks : List (Addr × List Int), vs = ks.map (fun p => V.ref p.1) ∧ ks.map (·.2) = xs.map castL ∧ ∀ p ∈ ks, TupR H p.1 (p.2.map V.int)
  | [], _, _, h => by
    cases h
    exact ⟨[], rfl, rfl, fun p hp => absurd hp List.not_mem_nil⟩
  | x :: xs, _, _, h => by
    cases h with
    | cons a b q =>
      obtain ⟨c, rfl, hT⟩ := im_nv a
      obtain ⟨ks, e1, e2, e3⟩ := rows_of b
      refine ⟨(c, castL x) :: ks, by rw [e1]; rfl, by rw [List.map_cons, e2]; rfl, fun p hp => ?_⟩
      rcases List.mem_cons.mp hp with z | z
      · subst z
        show TupR H c ((castL x).map V.int)
        unfold castL
        rw [← nv_map]
        exact hT
      · exact e3 p z
theorem re_lenSetTT {t : TE} {m : M (List (List Nat))} {f : Bool} (h : RE K T t ρ f m) : RE K T (tCB (rLenS K P w) (tCons (tCB (rSetTT K P w) (tCons t tNil)) tNil)) ρ true (bindW m fun xs => reqW (xs.length < 64) (retW (ddA xs).length)) := fun Bs po φ σ H n st Q0 p Q q => h Bs po φ σ H n st _ p _ fun xs n1 v H1 fp pa a1 i1 g1 => by
  obtain ⟨a, vs, rfl, hT, hA⟩ := im_tup i1
  obtain ⟨ks, e1, e2, e3⟩ := rows_of hA
  subst e1
  have hl : ks.length = xs.length := by
    have := congrArg List.length e2
    rw [List.length_map, List.length_map] at this
    exact this
  refine ⟨a, ks, rfl, hT.q, fun p hp => (e3 p hp).q, by rw [hl]; exact pa.1, fun b L nb h1 h2 => ?_⟩
  have s := same_new (Same.refl H1) nb (o := SetTO P w b L)
  refine ⟨b, rfl, .inr ⟨L, upd_same, fun p hp => ((e3 p (h1 p hp)).same s).q, fun m nd em => ?_⟩⟩
  have e : m = (ddA xs).length := by
    rw [em]
    have z := nd_eq (l := L.map (·.2)) (m := (ddA xs).map castL) nd (List.Pairwise.map castL (fun a b (hab : a ≠ b) e => hab (castL_inj e)) (ddA_nd xs)) fun k => ?_
    · rw [List.length_map, List.length_map] at z
      exact z
    · constructor
      · intro hk
        obtain ⟨p, hp, rfl⟩ := List.mem_map.mp hk
        have hp2 : p.2 ∈ ks.map (·.2) := List.mem_map.mpr ⟨p, h1 p hp, rfl⟩
        rw [e2] at hp2
        obtain ⟨x, hx, e⟩ := List.mem_map.mp hp2
        exact List.mem_map.mpr ⟨x, ddA_mem.mpr hx, e⟩
      · intro hk
        obtain ⟨x, hx, rfl⟩ := List.mem_map.mp hk
        have hx2 : castL x ∈ ks.map (·.2) := by
          rw [e2]
          exact List.mem_map.mpr ⟨x, ddA_mem.mp hx, rfl⟩
        obtain ⟨p, hp, e⟩ := List.mem_map.mp hx2
        have := h2 p hp
        rw [e] at this
        exact this
  rw [e]
  exact q _ n1 _ _ [] pa.2 (a1.trans (Af.same s)) (.int _) Fp.nil
end
end Bf
namespace Bf
open PySem PySem.Spec PyProof.Rows L2 LamX NdefX
/-! ## sorted(tuple of whole numbers) -/
section
variable {prog : Program} {w : World} {A : Around} {E : Value → Shared → Prop} {s : Shared}
theorem get_tup {tu : Addr} {vs : List Value} {Q : List Value → Shared → Prop} (hT : s.heap.IsTuple tu vs.toArray) (hn : vs.length ≤ sizeLine)
    (q : Q vs { s with heap := (s.heap.push (seqObj "list" #[] 0)).update s.heap.objs.size (Obj.mapSeq (· ++ vs.toArray)) }) : wpAny (model prog w) A (collect (.ref tu)) Q E s := by
  obtain ⟨ob, hob, hcl, e0, hdt⟩ := id hT
  unfold collect
  refine wpAny_bind (wpAny_runValue (codeAny_builtin entry_proto_collect' ?_))
  show wpAny (model prog w) _ (newList [] >>= fun x => again (.builtin "list.__iadd__" ⟨[x, .ref tu], []⟩)) _ _ _
  refine wpAny_bind (wpAny_newList (wpAny_pure ⟨Code.quiet_builtin _ (by decide +kernel), codeAny_builtin entry_list_iadd' ?_⟩))
  show wpAny _ _ (Builtin.List.listExtendWith (Value.ref s.heap.objs.size) (Value.ref tu) (Value.ref s.heap.objs.size)) _ _ { s with heap := s.heap.push (seqObj "list" #[] 0) }
  unfold Builtin.List.listExtendWith
  have hob1 : (s.heap.push (seqObj "list" #[] 0)).get? tu = some ob := Heap.get?_push_of_some _ hob
  have hnew : (s.heap.push (seqObj "list" #[] 0)).get? s.heap.objs.size = some (seqObj "list" #[] 0) := Heap.get?_push_size _ rfl
  refine wpAny_bind (wpAny_typeOf (T := "tuple") ⟨ob, hob1, hcl⟩ ?_)
  have tt : (Value.type "tuple" == Value.type "tuple") = true := by rfl
  rw [if_pos (by rw [tt, Bool.or_true])]
  refine wpAny_bind (listItems_at hob1 hdt ?_)
  refine wpAny_bind (listItems_at (xs := #[]) (n := 0) hnew rfl ?_)
  rw [if_neg (by simp)]
  refine wpAny_bind (listUpdate_at (xs := #[]) (n := 0) hnew rfl ?_ (Nat.zero_le _) (by simp only [Array.size_append, List.size_toArray]; show 0 + vs.length ≤ _; omega))
  refine wpAny_pure ?_
  show wpAny (model prog w) A (load s.heap.objs.size >>= fun o => match o.data with | .seq xs _ => pure xs.toList | _ => unsupported "internal:collect") Q E _
  refine wpAny_bind (wpAny_load (get?_update_seq hnew _) ?_)
  have ev : ((#[] : Array Value) ++ vs.toArray).toList = vs := by simp
  show wpAny _ _ (pure ((#[] : Array Value) ++ vs.toArray).toList) Q E _
  rw [ev]
  exact wpAny_pure q
open SrtO in
theorem sorted_tup {tu : Addr} {vs : List Value} {ltv : Value → Value → Bool} {Q : Value → Shared → Prop} (O : Swo ltv) (hT : s.heap.IsTuple tu vs.toArray) (hn : vs.length ≤ sizeLine)
    (hS : 2 ≤ vs.length → ∀ (h₁ : Heap) (a : Addr), h₁.get? a = some (seqObj "list" vs.toArray 0) → (∀ b o, s.heap.get? b = some o → b ≠ a ∧ h₁.get? b = some o) → SortableO prog w A.in1.in1 { s with heap := h₁ } a vs ltv)
    (q : ∀ out : List Value, Srtd ltv out → Stb ltv out vs → Q (.ref (s.heap.objs.size + 1)) { s with heap := sortedAll s.heap vs out.toArray }) : wpAny (model prog w) A (call (.builtin "sorted") [.ref tu]) Q E s := by
  refine Calls.call_function_entry kind_sorted plain_sorted entry_sorted (args_sorted1 _) ?_
  unfold Builtin.«sorted»
  refine wpAny_bind (m := checkCount "sorted" 1 1 _) (wpAny_pure (wpAny_bind (get_tup hT hn (wpAny_bind (wpAny_newList ?_ hn)))))
  have z1 : ((s.heap.push (seqObj "list" #[] 0)).update s.heap.objs.size (Obj.mapSeq (· ++ vs.toArray))).objs.size = s.heap.objs.size + 1 := by
    rw [Heap.size_update]
    exact size_push' ..
  have hL : (((s.heap.push (seqObj "list" #[] 0)).update s.heap.objs.size (Obj.mapSeq (· ++ vs.toArray))).push (seqObj "list" vs.toArray 0)).get? (s.heap.objs.size + 1) = some (seqObj "list" vs.toArray 0) := z1 ▸ Heap.get?_push_size _ rfl
  have old : ∀ b o, s.heap.get? b = some o → b ≠ s.heap.objs.size + 1 ∧ (((s.heap.push (seqObj "list" #[] 0)).update s.heap.objs.size (Obj.mapSeq (· ++ vs.toArray))).push (seqObj "list" vs.toArray 0)).get? b = some o := fun b o e => by
    have lt := Heap.lt_size e
    have ne : b ≠ s.heap.objs.size := Nat.ne_of_lt lt
    exact ⟨Nat.ne_of_lt (Nat.lt_succ_of_lt lt), Heap.get?_push_of_some _ ((Heap.get?_update_ne _ _ _ _ ne).trans (Heap.get?_push_of_some _ e))⟩
  show wpAny _ _ _ _ _ { s with heap := ((s.heap.push (seqObj "list" #[] 0)).update s.heap.objs.size (Obj.mapSeq (· ++ vs.toArray))).push (seqObj "list" vs.toArray 0) }
  rw [z1]
  exact wpAny_bind (wpAny_holding (wpAny_call_entry slot_list_sort ⟨_, hL, rfl⟩ entry_list_sort (list_sort_ord O hL hn (fun h2 => hS h2 _ _ hL old) fun out h1 h2 => ⟨_, rfl, wpAny_pure ⟨_, rfl, q out h1 h2⟩⟩) (args_list_sort _)))
end
def rSortedTI (K : PySem.W.Frag) : List V → Hp → VK → Prop := fun vs H Q => ∃ (a : Addr) (ns : List Int), vs = [V.ref a] ∧ SqT K H a (ns.map V.int) ∧ ∀ (ns' : List Int) (p : Addr), ns'.Perm ns → ns'.Pairwise (· ≤ ·) → H p = none → Q (.ref p) (upd H p (.lst (ns'.map V.int)))
theorem cr_sortedTI {X : Cx} : CallR X (.builtin "sorted") (rSortedTI X.K) := by
  intro pins s σ H vs us Q I r h
  obtain ⟨a, ns, rfl, hs, q⟩ := h
  obtain ⟨its, rv, hl, hz⟩ := I.tuple hs
  have hz2 : ns.length ≤ sizeLine := by rw [List.length_map] at hz; exact hz
  have hi := rv.ints
  rw [Vals.ref1 r]
  refine sorted_tup SrtO.swo_int hl (by rw [← rv.length]; exact hz) (fun h2 h₁ a' _ _ => SrtO.ints_sortable hi h2) fun out h1 h2 => ?_
  obtain ⟨k1, k2, k3⟩ := SrtO.ints_out hi h1 h2
  obtain ⟨ep, he⟩ := PyProof.Rows.sortedAll_at s.heap its out.toArray
  refine ⟨.ref _, upd H (s.heap.objs.size + 1) (.lst ((out.map SrtO.iv).map V.int)), I.laid (t' := s.toks) (fun _ _ => PyProof.Rows.sortedAll_old) (Nat.le_succ _) ⟨?_, out, ep, vals_of_ints k1, he⟩, rfl, q _ _ k2 k3 (I.hok.fresh (Nat.le_succ _))⟩
  rw [List.length_map, k2.length_eq]
  exact hz2
section
variable {K : PySem.W.Frag}
theorem uw_sortedT : UnW K (fun x => rSortedTI K [x]) (fun xs : List Nat => retW (⟨sortN xs⟩ : Lst Nat)) := fun xs H v fp i1 n P p Q q => by
  obtain ⟨a, rfl, hT⟩ := im_nv i1
  refine ⟨a, xs.map fun (n : Nat) => (n : Int), rfl, by rw [← nv_map]; exact hT.q, fun ns' t hp hs nt => ?_⟩
  obtain ⟨ls, rfl, hl⟩ := int_list hp
  have e : ls = sortN xs := sort_uniq hl (by rw [List.pairwise_map] at hs; exact hs.imp fun h => by omega)
  rw [← nv_map, e]
  exact q _ _ _ [t] p (same_new (Same.refl H) nt) (nv_imL upd_same) ⟨List.nodup_cons.mpr ⟨List.not_mem_nil, List.nodup_nil⟩, fun x hx => by rw [List.mem_singleton.mp hx]; exact nt⟩
end
end Bf
namespace Bf
open PySem PySem.Spec PyProof.Rows L2 LamX NdefX
/-! ## repr of a number; zip of a list that is borrowed and a new one -/
def repN (n : Nat) : Str := toString ((n : Nat) : Int)
def rReprN : List V → Hp → VK → Prop := fun xs H Q => ∃ i : Int, xs = [.int i] ∧ i.natAbs.log2 < 1920 ∧ Q (.str (toString i)) H
section
variable {K : PySem.W.Frag} {T : List (Addr × Str)} {ρ : List Sl} {α β : Type} [Enc α] [Enc β]
theorem uw_reprN : UnW K (fun x => rReprN [x]) (fun n : Nat => reqW (n < 2 ^ 60) (retW (repN n))) := unw_pure fun n H v fp i1 m P p => by
  cases i1
  refine ⟨_, _, p.2, .str _, fun Q q => ⟨_, rfl, ?_, q⟩⟩
  show ((n : Nat) : Int).natAbs.log2 < 1920
  rw [Int.natAbs_natCast]
  by_cases z : n = 0
  · rw [z]
    decide
  · have := (Nat.log2_lt z (k := 60)).mpr p.1
    omega
theorem ri_zipLB [Pu α] [Pu β] {i : Nat} {xs : Lst α} {u : TE} {m2 : M (Lst β)} (h3 : ρ[i]? = some (.bor (enc xs))) (h2 : RE K T u ρ true m2) : RI K T (_root_.RZ.iZipA K (tCons (tVar i) (tCons u tNil))) ρ (bindW m2 fun ys => retW (xs.l.zip ys.l)) := fun Bs po φ σ H n st P p R q => by
  obtain ⟨v0, e0, _, _⟩ := st.sl i _ h3
  refine ⟨v0, e0, h2 Bs po φ σ H n st _ p _ fun ys n2 w H2 fq pb a2 i2 g2 => ?_⟩
  have st2 := st.af a2
  obtain ⟨v3, e3a, i3, e3b⟩ := st2.sl i _ h3
  rw [e0] at e3a
  cases e3a
  obtain ⟨a, vs, f1, rfl, hT, hA, e1⟩ := im_lst i3
  obtain ⟨b, ws, f2, rfl, hT2, hA2, e2⟩ := im_lst i2
  have z1 := ima_pu hA
  have z2 := ima_pu hA2
  subst z1 z2 e2
  have ha : a ∈ φ i := by rw [e1]; exact List.mem_cons_self
  have hl := hA.len
  have hl2 := hA2.len
  rw [List.length_map] at hl hl2
  refine ⟨a, b, vs, ws, rfl, .inl ⟨.inl (.inl hT), .inl (.inl hT2), q (xs.l.zip ys.l) n2 _ H2 [a, b] pb a2 ⟨⟨fun H => (H a = some (.lst vs) ∧ ImA K H vs (xs.l.map enc) []) ∧ H b = some (.lst ws) ∧ ImA K H ws (ys.l.map enc) [], YPair (fun i => vs[i]?) (fun i => ws[i]?), ?_, ⟨⟨hT, hA⟩, hT2, hA2⟩, fun H H' hl' ht _ g => ⟨⟨hl' _ (by simp) _ g.1.1, ima_stay g.1.2 ht⟩, hl' _ (by simp) _ g.2.1, ima_stay g.2.2 ht⟩, fun i H x H' hi g y => ?_⟩, fun c hc => ?_⟩ (fun c hc => ?_) fun c hc => ?_⟩⟩
  · exact (walk_zip (n := (xs.l.zip ys.l).length) (by rw [List.length_zip, hl, hl2])).mono (fun H g => ⟨.inl (.inl g.1.1), .inl (.inl g.2.1)⟩) fun i H x H' _ _ y => y
  · obtain ⟨Tp, vx, vy, rfl, nT, rfl, ex, ey⟩ := y
    rw [List.length_zip] at hi
    obtain ⟨c, h1, h2⟩ := yat_im g.1.2 (by omega) ex
    obtain ⟨d, h3, h4⟩ := yat_im g.2.2 (by omega) ey
    obtain ⟨s, im⟩ := pair_im (H' := H) nT h2 h4
    exact ⟨(c, d), by rw [List.getElem?_zip_eq_some]; exact ⟨h1, h3⟩, s, im⟩
  · simp only [List.mem_cons, List.not_mem_nil, or_false] at hc
    rcases hc with rfl | rfl
    · exact ⟨_, hT⟩
    · exact ⟨_, hT2⟩
  · simp only [List.mem_cons, List.not_mem_nil, or_false] at hc
    rcases hc with rfl | rfl
    · exact (e3b _ ha).1
    · exact g2.1 _ List.mem_cons_self
  · simp only [List.mem_cons, List.not_mem_nil, or_false] at hc
    rcases hc with rfl | rfl
    · exact .inl (e3b _ ha).2
    · exact .inr ((g2.2 rfl).2 _ List.mem_cons_self)
end
end Bf
namespace Bf
open PySem PySem.Spec PyProof.Rows L2 LamX NdefX
/-! ## dicts with tuples for keys: by a comprehension, setdefault -/
section
variable {X : Cx} {pins : List (Addr × Obj)} {σ : L2.St} {H : Hp} {s : Shared} {D kb : Addr} {kvs : List (List Key × V)} {k : List Key} {v : V} {r : Value}
/-- what stands behind a write to the dict -/
theorem dT_after (J : Inv X pins σ H s) (eD : H D = some (.dT kvs)) (ek : H kb = some (.tup (k.map kV))) (few : kvs.length < sizeLine) (rv : RelV v r) {xs : List (List Key × Addr × Value)} (rel : L2.KT H kvs xs) {h' : Heap} {t' : Nat}
    (dd : h'.DictOfH (tupleKind (mixKind X.prog X.w)) D (storedH xs k kb r)) (sb : Heap.SameBut D s.heap h') (hd : (D == sysModules) = false) : Inv X pins σ (upd H D (.dT (putK kvs k v))) { s with heap := h', toks := t' } := by
  have hl : (putK kvs k v).length ≤ sizeLine := by
    have z := length_putK kvs k v
    omega
  obtain ⟨ob, es, ep, h1, h2, h3, h4, _, h5⟩ := dd
  refine d_write J (by rw [eD]; exact True.intro) sb ⟨ob, h1⟩ ⟨hl, hd, _, L2.KT.keeps (L2.KT.put rel k ek rv) (fun c ys ec => ?_), ob, es, ep, h1, h2, h3, h4, h5⟩
  rw [upd_ne (ne_of ec eD fun z => nomatch z)]
  exact ec
theorem put_tup {E : Value → Shared → Prop} {Q : Unit → Shared → Prop} (hu : X.A.units < cLine) (J : Inv X pins σ H s) (eD : H D = some (.dT kvs)) (ek : H kb = some (.tup (k.map kV))) (few : kvs.length < sizeLine) (rv : RelV v r)
    (q : ∀ s', Inv X pins σ (upd H D (.dT (putK kvs k v))) s' → Q () s') : wpAny (model X.prog X.w) X.A (dictSet D (.ref kb) r) Q E s := by
  obtain ⟨z, hd, xs, rel, dd⟩ := dt_of J.hok eD
  have hz : xs.length ≤ sizeLine := by
    rw [← Paired.length rel]
    exact z
  exact wpAny_dictSet_heap (hsz := hz) hu (key_of J.hok ek) dd fun h' d2 sb => q _ (dT_after J eD ek few rv rel d2 sb hd)
theorem setd_tup {A : Around} {E : Value → Shared → Prop} {Q : Value → Shared → Prop} (hu : A.units + 1 < cLine) (J : Inv X pins σ H s) (eD : H D = some (.dT kvs)) (ek : H kb = some (.tup (k.map kV))) (few : kvs.length < sizeLine) (rv : RelV v r)
    (q1 : ∀ u, valV kvs k = some u → ∀ w' s', Inv X pins σ H s' → RelV u w' → Q w' s') (q2 : valV kvs k = none → ∀ w' s', Inv X pins σ (upd H D (.dT (putK kvs k v))) s' → RelV v w' → Q w' s') :
    wpAny (model X.prog X.w) A (call (.builtin "dict.setdefault") [.ref D, .ref kb, r]) Q E s := by
  obtain ⟨z, hd, xs, rel, dd⟩ := dt_of J.hok eD
  have hz : xs.length ≤ sizeLine := by
    rw [← Paired.length rel]
    exact z
  have rr := L2.KT.val rel k
  refine call_setdefault_heap (hsz := hz) (tupleKind_room_in1 hu) (key_of J.hok ek) hd dd (fun p hp => ?_) fun hn h' d2 sb => ?_
  · rw [hp] at rr
    cases hv : valV kvs k with
    | none => rw [hv] at rr; exact False.elim rr
    | some u => rw [hv] at rr; exact q1 u hv _ _ (J.tok _) rr
  · rw [hn] at rr
    cases hv : valV kvs k with
    | some u => rw [hv] at rr; exact False.elim rr
    | none => exact q2 hv _ _ (dT_after J eD ek few rv rel d2 sb hd) rv
end
/-- d.setdefault(y, z), the keys tuples -/
def tSetdT (td ty tx : TE) : TE := fun σ H Q => td σ H fun x H1 => ∃ a, x = .ref a ∧ IsD H1 a ∧ ty σ H1 fun y H2 => tx σ H2 fun z H3 => ∃ (kvs : List (List Key × V)) (k : List Key) (kb : Addr), H3 a = some (.dT kvs) ∧ y = .ref kb ∧ H3 kb = some (.tup (k.map kV)) ∧ kvs.length < sizeLine ∧
  (∀ v, valV kvs k = some v → Q v H3) ∧ (valV kvs k = none → Q z (upd H3 a (.dT (putK kvs k z))))
theorem pe_setdT {X : Cx} {o e f : Expr} {td ty tx : TE} {apos cpos : Pos} (hu : X.A.units + 1 < cLine) (ho : PE X o td) (he : PE X e ty) (hf : PE X f tx) (m : M2 X o "setdefault" apos e f cpos) : PE X (.Call (.Attribute o "setdefault" apos) [e, f] [] cpos) (tSetdT td ty tx) := by
  constructor
  intro pins s σ H Q J h
  refine wpAny_Call_method m.base m.few m.line PySem.F.plainAttrs_dict PySem.F.slot_dict_setdefault PySem.F.type_dict_setdefault ?_
  refine thn (ho.run pins s σ H _ J h) fun u1 s1 ⟨x1, H1, J1, r1, a, e1, d1, q1⟩ => ?_
  subst e1
  obtain rfl : u1 = Value.ref a := r1
  obtain ⟨y1, y2, _⟩ := isD_at J1 d1
  refine ⟨y1, y2, ?_⟩
  rw [m.trees]
  refine Calls.callWith_builtin rfl (Calls.evalArgs_plain (Calls.spliced_cons ?_))
  refine thn (he.run pins s1 σ H1 _ J1 q1) fun u2 s2 ⟨x2, H2, J2, r2, q2⟩ => Calls.spliced_cons ?_
  refine thn (hf.run pins s2 σ H2 _ J2 q2) fun u3 s3 ⟨x3, H3, J3, r3, kvs, k, kb, ea, ey, ek, few, w1, w2⟩ => Calls.spliced_nil ?_
  subst ey
  obtain rfl : u2 = Value.ref kb := r2
  exact setd_tup hu J3 ea ek few r3 (fun v hv w' s4 J4 rw' => ⟨v, _, J4, rw', w1 v hv⟩) fun hn w' s4 J4 rw' => ⟨x3, _, J4, rw', w2 hn⟩
/-- {(..): v for .. in .. if ..} -/
def tDcT (wi : TI) (g : TG) (tt : TT) (tk tv : TE) (vs : List Nat) : TE := fun σ H Q => wi σ H fun J H1 => ∀ D, H1 D = none → ∃ W : Nat → Nat → Hp → Prop, (∃ m, W 0 m (upd H1 D (.dT []))) ∧ ∀ i m HA, W i m HA →
  (J.stop i HA ∧ Q (.ref D) HA) ∨ (J.go i HA ∧ ∃ Nx : Hp → Prop, (∀ H', Nx H' → ∃ m', m' < m ∧ W (i + 1) m' H') ∧ ∀ x H', J.yld i HA x H' → g x (L2.wipe σ vs) H' fun σ2 H2 => L2.wipe σ2 vs = L2.wipe σ vs ∧ tt σ2 H2 fun b H3 =>
    if b = true then tk σ2 H3 fun y H4 => tv σ2 H4 fun z H5 => ∃ kvs k kb, y = .ref kb ∧ H5 D = some (.dT kvs) ∧ H5 kb = some (.tup (k.map kV)) ∧ kvs.length < sizeLine ∧ Nx (upd H5 D (.dT (putK kvs k z))) else Nx H3)
section
variable {X : Cx} {kx vx tg iter : Expr} {ifs : List Expr} {scope : Scope} {own : List (Str × Nat)} {pos : Pos} {wi : TI} {g : TG} {tt : TT} {tk tv : TE}
theorem dcT_core {pins : List (Addr × Obj)} {s : Shared} {σ : L2.St} {H : Hp} {Q : VK} {pos' : Pos} {use : Option (Value → Sem Unit)} {Qf : Value → Shared → Prop} (hu : X.A.units + 1 < cLine) (hc : X.calm = true) (hN : X.N.Nodup) (hi : PI X tg iter wi) (ok : BlkOk X.N X.env.scope scope own)
    (hg : ∀ s H C cl fp, PG (X.blk s H scope (compEnvC scope cl C X.env) fp) tg g)
    (ht : ∀ s H C cl fp, PTs (X.blk s H scope (compEnvC scope cl C X.env) fp) ifs tt)
    (hk : ∀ s H C cl fp, PE (X.blk s H scope (compEnvC scope cl C X.env) fp) kx tk)
    (he : ∀ s H C cl fp, PE (X.blk s H scope (compEnvC scope cl C X.env) fp) vx tv)
    (hs : ∀ x, foldedSetIterable iter X.env x = pure x) (J : Inv X pins σ H s) (h : tDcT wi g tt tk tv (own.map (·.2)) σ H Q)
    (end_ : ∀ D C s' m H', Inv X pins σ H' s' → Q (.ref D) H' → s'.heap.Ns C m → FpOk X pins H' C → compPost (model X.prog X.w) X.A X.xe use Qf (.ref D) C (.ok .next) s') :
    wpAny (model X.prog X.w) X.A (comprehension (.DictComp kx vx [⟨tg, iter, ifs, 0⟩] scope pos) scope X.env pos' newDict false (eval iter X.env) use) Qf X.xe s := by
  have free : ∀ y ∈ scope.names, y.2 = .free → ∃ c, X.env.cells.lookup y.1 = some c := fun y hy e => J.ok.has _ (Or.symm ((ok.free y hy e).symm.imp_right id)|>.elim .inl .inr)
  refine wpAny_comprehension_free (use := use) rfl hs (closure_ok free) ok.kind (fun y hy e => by rw [ok.uniq y hy, e]) ?_
  refine thn (hi.run pins s σ H _ J h) fun xv s1 hx => thn hx fun itv s2 ⟨it, fp, tn, Jt, H2, e, J2, T, st2, f2, q⟩ => ?_
  subst e
  refine wpAny_newObj_type (newEnv_comp ?_)
  -- the new dict's place
  have hDn : H2 s2.heap.objs.size = none := J2.hok.fresh (Nat.le_refl _)
  obtain ⟨W, ⟨m0, w0⟩, turn⟩ := q _ hDn
  generalize eD : s2.heap.objs.size = D at hDn w0 turn ⊢
  have old : ∀ b o, s2.heap.get? b = some o → (s2.heap.push { cls := .type "dict", data := .dict #[] }).get? b = some o := fun b o z => Heap.get?_push_of_some _ z
  have J3 : Inv X pins σ (upd H2 D (.dT [])) { s2 with heap := s2.heap.push { cls := .type "dict", data := .dict #[] } } :=
    J2.laid (t' := s2.toks) old (Nat.le_of_eq eD) (by rw [← eD]; exact dt_empty s2.heap J2.big)
  have lt2 : ∀ b ∈ fp, b < s2.heap.objs.size := fun b hb => let ⟨o, z, _⟩ := T.obj _ _ st2 b hb; Heap.lt_size z
  have fre : ∀ b ∈ fp, (upd H2 D (.dT [])) b = none := fun b hb => by
    rw [upd_ne (by rw [← eD]; exact Nat.ne_of_lt (lt2 b hb))]
    exact (f2 b hb).1
  have fok : ∀ b ∈ fp, FpOk X pins (upd H2 D (.dT [])) b := fun b hb => ⟨fre b hb, (f2 b hb).2⟩
  generalize es3 : ({ s2 with heap := s2.heap.push { cls := .type "dict", data := .dict #[] } } : Shared) = s3 at J3
  have h3 : s3.heap = s2.heap.push { cls := .type "dict", data := .dict #[] } := by rw [← es3]
  have J4 := block_start J3 ok hN fun b hb => ⟨fok b hb, by rw [h3, Heap.size_push]; exact Nat.lt_succ_of_lt (lt2 b hb)⟩
  -- the block's parts
  let cl := cellsFrom (s3.heap.objs.size + 1) scope.names (cloFrom X.env.cells scope.names [])
  have pg := hg s3 (upd H2 D (.dT [])) s3.heap.objs.size cl fp
  have pt := ht s3 (upd H2 D (.dT [])) s3.heap.objs.size cl fp
  have pk := hk s3 (upd H2 D (.dT [])) s3.heap.objs.size cl fp
  have pv := he s3 (upd H2 D (.dT [])) s3.heap.objs.size cl fp
  have st3 : tn 0 s3.heap := T.keep _ _ _ st2 fun b _ o z => by rw [h3]; exact old b o z
  have room : X.A.units < cLine := by omega
  let s4 : Shared := { s3 with heap := pushCells (s3.heap.push { cls := .type "dict", data := .dict #[] }) scope.names }
  have st4 : tn 0 s4.heap := T.keep _ _ _ st3 fun b _ o z => pushCells_keeps _ _ _ _ (Heap.get?_push_of_some _ z)
  show codeAny _ _ (.compStart _ 0 (.ref it) (.ref D) (compEnvC scope cl s3.heap.objs.size X.env)) _ s4
  have J4 : Inv (X.blk s3 (upd H2 D (.dT [])) scope (compEnvC scope cl s3.heap.objs.size X.env) fp) [] (L2.wipe σ (own.map (·.2))) (upd H2 D (.dT [])) s4 := J4
  generalize ece : compEnvC scope cl s3.heap.objs.size X.env = ce at J4 pg pt pk pv ⊢
  have lc : ce.locals = s3.heap.objs.size := by subst ece; rfl
  have hBp : (X.blk s3 (upd H2 D (.dT [])) scope ce fp).prog = X.prog := rfl
  have hBw : (X.blk s3 (upd H2 D (.dT [])) scope ce fp).w = X.w := rfl
  have hBA : (X.blk s3 (upd H2 D (.dT [])) scope ce fp).A = X.A := rfl
  have hBK : (X.blk s3 (upd H2 D (.dT [])) scope ce fp).K = X.K := rfl
  have hBc : (X.blk s3 (upd H2 D (.dT [])) scope ce fp).calm = X.calm := rfl
  have hBl : ∀ {σ' H' s'}, Inv (X.blk s3 (upd H2 D (.dT [])) scope ce fp) [] σ' H' s' → H' s3.heap.objs.size = none ∧ ∃ m, s'.heap.Ns s3.heap.objs.size m := fun {σ' H' s'} I => by
    have z : H' ce.locals = none := I.free
    obtain ⟨m, hn, _⟩ := I.loc
    have hn : s'.heap.Ns ce.locals m := hn
    rw [lc] at z hn
    exact ⟨z, m, hn⟩
  have hBf : ∀ {σ' H' s'}, Inv (X.blk s3 (upd H2 D (.dT [])) scope ce fp) [] σ' H' s' → (∀ b ∈ fp, H' b = none) → ∀ b ∈ fp, FpOk (X.blk s3 (upd H2 D (.dT [])) scope ce fp) [] H' b := fun {σ' H' s'} I n b hb => by
    exact ⟨n b hb, (I.ok.exf b hb).1, I.ok.exfs b hb, .inl hb, fun x c z => (I.ok.exf b hb).2 x c z, fun p hp => absurd (show p ∈ ([] : List (Addr × Obj)) ++ [] from hp) (by simp)⟩
  have hBb : ∀ {σ' H' s'}, Inv (X.blk s3 (upd H2 D (.dT [])) scope ce fp) [] σ' H' s' → Inv X pins σ H' s' := fun {σ' H' s'} I => by
    exact J3.call' (ch := fp) I.os I.base I.hok I.bare fun b hb => ⟨(fok b hb).2.2.2.1, (fok b hb).2.1, (fok b hb).2.2.2.2.1, (fok b hb).2.2.2.2.2⟩
  have go : codeAny (model X.prog X.w) X.A (.compLoop (.DictComp kx vx [⟨tg, iter, ifs, 0⟩] scope pos) 0 (.ref it) (.ref D) ce) (compPost (model X.prog X.w) X.A X.xe use Qf (.ref D) s3.heap.objs.size) s4 := by
    refine compLoop_anyD (fun n s' => ∃ i HA, Inv (X.blk s3 (upd H2 D (.dT [])) scope ce fp) [] (L2.wipe σ (own.map (·.2))) HA s' ∧ tn i s'.heap ∧ (∀ b ∈ fp, HA b = none) ∧ W i n HA) ?_ m0 ⟨0, _, J4, st4, fre, w0⟩
    rintro n s5 ⟨i, H5, I5, st5, n5, w5⟩
    have done := fun stop => T.done (X.blk s3 (upd H2 D (.dT [])) scope ce fp) hBp hBw hBK hc i [] s5 _ H5 (fun _ _ => False) I5 (hBf I5 n5) st5 stop
    have item := fun gg => T.item (X.blk s3 (upd H2 D (.dT [])) scope ce fp) hBp hBw hBK hc i [] s5 _ H5 (fun _ _ => False) I5 (hBf I5 n5) st5 gg
    rcases turn i n H5 w5 with ⟨stop, fin⟩ | ⟨gg, Nx, hNx, step⟩
    · refine thnF (done stop) fun r s6 ⟨hr, I6⟩ => ?_
      subst hr
      obtain ⟨nC, m, hn⟩ := hBl I6
      exact end_ D s3.heap.objs.size s6 m H5 (hBb I6) fin hn (J3.fpOk (H' := H5) (Nat.le_refl s3.heap.objs.size) nC)
    · refine thnF (item gg) fun r s6 ⟨u, hr, h6⟩ => ?_
      subst hr
      refine thnF h6 fun _ s7 ⟨x, H7, I7, r7, y7, st7, n7⟩ => ?_
      refine thnF (pg.run _ s7 _ H7 x u _ (I7.pinned (hBf I7 n7) (T.obj _ _ st7)) r7 (step x H7 y7)) fun _ s8 ⟨σ8, H8, I8, w8, q8⟩ => ?_
      refine thnF (pt.run _ s8 σ8 H8 _ I8 q8) fun b s9 ⟨H9, I9, q9⟩ => ?_
      have next : ∀ {s' : Shared} {H' : Hp}, Inv (X.blk s3 (upd H2 D (.dT [])) scope ce fp) ([] ++ pinsAt fp s7.heap) σ8 H' s' → Nx H' → ∃ m, m < n ∧ ∃ i HA, Inv (X.blk s3 (upd H2 D (.dT [])) scope ce fp) [] (L2.wipe σ (own.map (·.2))) HA s' ∧ tn i s'.heap ∧ (∀ b ∈ fp, HA b = none) ∧ W i m HA := fun {s' H'} I nx => by
        obtain ⟨m', hm, ww⟩ := hNx H' nx
        have stay : ∀ b ∈ fp, ∀ o, s7.heap.get? b = some o → s'.heap.get? b = some o ∧ H' b = none := fun b hb o z => by
          have y := I.pin (b, o) (List.mem_append_right _ (List.mem_append_right _ (mem_pinsAt hb z)))
          exact ⟨y.1, y.2.1⟩
        refine ⟨m', hm, i + 1, H', (I.unpinned (pins := [])).weak (by rw [← w8, wipe_length]) (fun j v z => ?_), T.keep _ _ _ st7 fun b hb o z => (stay b hb o z).1, fun b hb => ?_, ww⟩
        · rw [← w8] at z
          exact (wipe_some z).1
        · obtain ⟨o, z, _⟩ := T.obj _ _ st7 b hb
          exact (stay b hb o z).2
      cases b with
      | false => exact next I9 ((if_neg (by decide)).mp q9)
      | true =>
        refine thnF (pk.run _ s9 σ8 H9 _ I9 ((if_pos rfl).mp q9)) fun z1 s10 ⟨y1, H10, I10, r10, q10⟩ => ?_
        refine thnF (pv.run _ s10 σ8 H10 _ I10 q10) fun z2 s11 ⟨y2, H11, I11, r11, kvs, k, kb, ek, e1, e2, few, nx⟩ => ?_
        subst ek
        obtain rfl : z1 = Value.ref kb := r10
        have := put_tup (X := X.blk s3 (upd H2 D (.dT [])) scope ce fp) (E := fun _ _ => False) (Q := fun _ s' => ∃ m, m < n ∧ ∃ i HA, Inv (X.blk s3 (upd H2 D (.dT [])) scope ce fp) [] (L2.wipe σ (own.map (·.2))) HA s' ∧ tn i s'.heap ∧ (∀ b ∈ fp, HA b = none) ∧ W i m HA) room I11 e1 e2 few r11 fun s12 I12 => next I12 nx
        exact thnF this fun _ _ z => z
  exact codeAny_compStart_dict go (T.self X.A 0 _ _ _ st4 go)
theorem pe_dcT (hu : X.A.units + 1 < cLine) (hc : X.calm = true) (hN : X.N.Nodup) (hi : PI X tg iter wi) (ok : BlkOk X.N X.env.scope scope own)
    (hg : ∀ s H C cl fp, PG (X.blk s H scope (compEnvC scope cl C X.env) fp) tg g)
    (ht : ∀ s H C cl fp, PTs (X.blk s H scope (compEnvC scope cl C X.env) fp) ifs tt)
    (hk : ∀ s H C cl fp, PE (X.blk s H scope (compEnvC scope cl C X.env) fp) kx tk)
    (he : ∀ s H C cl fp, PE (X.blk s H scope (compEnvC scope cl C X.env) fp) vx tv)
    (hs : ∀ x, foldedSetIterable iter X.env x = pure x := by intro _; rfl) :
    PE X (.DictComp kx vx [⟨tg, iter, ifs, 0⟩] scope pos) (tDcT wi g tt tk tv (own.map (·.2))) := by
  constructor
  intro pins s σ H Q J h
  rw [arm_eval_DictComp]
  refine dcT_core hu hc hN hi ok hg ht hk he hs J h fun D C s' m H' J' q hn ff => ?_
  exact ⟨m, hn, fun h'' sb => ⟨.ref D, H', J'.turned (t' := s'.toks) (fun b o hb z => (sb.2 b hb).trans z) ff.1 ff.2.1 ff.2.2.2.1 ff.2.2.2.2.1 ff.2.2.2.2.2, rfl, q⟩⟩
/-- y = {..} on one row -/
theorem ps_setDcT {i : Nat} {y : Str} {py spos : Pos} (hu : X.A.units + 1 < cLine) (hc : X.calm = true) (hN : X.N.Nodup) (hy : X.N[i]? = some y) (hyl : X.env.scope.names.lookup y = some .local) (hsw : swapsWith (.DictComp kx vx [⟨tg, iter, ifs, 0⟩] scope pos) (some (.Name y py)) spos.line X.env = pure true) (hi : PI X tg iter wi) (ok : BlkOk X.N X.env.scope scope own)
    (hg : ∀ s H C cl fp, PG (X.blk s H scope (compEnvC scope cl C X.env) fp) tg g)
    (ht : ∀ s H C cl fp, PTs (X.blk s H scope (compEnvC scope cl C X.env) fp) ifs tt)
    (hk : ∀ s H C cl fp, PE (X.blk s H scope (compEnvC scope cl C X.env) fp) kx tk)
    (he : ∀ s H C cl fp, PE (X.blk s H scope (compEnvC scope cl C X.env) fp) vx tv)
    (hs : ∀ x, foldedSetIterable iter X.env x = pure x := by intro _; rfl) :
    PS X (.Assign [.Name y py] (.DictComp kx vx [⟨tg, iter, ifs, 0⟩] scope pos) spos) (tAsg (tDcT wi g tt tk tv (own.map (·.2))) (gName i)) := by
  constructor
  intro pins s σ H D J h
  have h : tDcT wi g tt tk tv (own.map (·.2)) σ H (fun x H1 => gName i x σ H1 D.nx) := h
  rw [exec_Assign_Name_used _ _ _ _ hsw]
  refine wpAny_bind (wpAny_standAt (wpAny_bind ?_))
  have core := dcT_core (pos := pos) (Qf := fun _ s' => SP X pins D .next s') (pos' := firstIterPos [⟨tg, iter, ifs, 0⟩] pos) (use := some (assign (.Name y py) X.env)) hu hc hN hi ok hg ht hk he hs J h fun L C s' m H' J' q hn ff => by
    show wpAny _ _ (assign (.Name y py) X.env (.ref L)) _ _ _
    refine wpAny_assign_Name (store_ok2 (v := V.ref L) J' hN hy (.inl hyl) rfl (fun s2 J2 ⟨a, sb, ha⟩ => ?_) (.inr hyl))
    have apart : C ≠ a := ha.elim (fun z => z ▸ ff.2.1) fun z e => ff.2.2.2.2.1 y a z e.symm
    exact ⟨m, hn.sameBut sb apart, fun h3 sb3 => ⟨_, H', J2.turned (t' := s2.toks) (fun b o hb e => (sb3.2 b hb).trans e) ff.1 ff.2.1 ff.2.2.2.1 ff.2.2.2.2.1 ff.2.2.2.2.2, q⟩⟩
  exact wpAny_bind (thn core fun _ s' hq => wpAny_pure (wpAny_pure hq))
end
end Bf
namespace Bf
open PySem PySem.Spec PyProof.Rows L2 LamX NdefX
/-! ## dicts with pairs for keys in the layer -/
instance : TK (Nat × Nat) where
  key := fun x => [.inl (x.1 : Int), .inl (x.2 : Int)]
  dec := inferInstance
  inj := fun x y h => by
    obtain ⟨a, b⟩ := x
    obtain ⟨c, d⟩ := y
    simp only [List.cons.injEq, Sum.inl.injEq, and_true] at h
    obtain ⟨h1, h2⟩ := h
    have e1 : a = c := by omega
    have e2 : b = d := by omega
    rw [e1, e2]
  en := fun _ => rfl
  obj := fun h => by
    cases h with
    | tup e b =>
      obtain ⟨v1, v2, f1, f2, rfl, h1, h2, _⟩ := ima2 b
      cases h1
      cases h2
      exact ⟨_, rfl, e⟩
  back := fun h => .tup h (.cons (.int _) (.cons (.int _) .nil rfl) rfl)
section
variable {K : PySem.W.Frag} {T : List (Addr × Str)} {ρ : List Sl} {Bs : Addr → HO → Prop} {po : Option Addr} {φ : Nat → List Addr} {σ : L2.St} {H H1 : Hp} {n n1 : Nat}
variable {κ α β : Type} [Enc κ] [Enc α] [Enc β] [TK κ]
def IsSl (ρ : List Sl) (i : Nat) (d : PyData) : Prop := ρ[i]? = some (.own d) ∨ ρ[i]? = some (.bor d) ∨ ρ[i]? = some (.lkd d)
theorem IsSl.o {i : Nat} {d : PyData} (h : ρ[i]? = some (.own d)) : IsSl ρ i d := .inl h
theorem IsSl.b {i : Nat} {d : PyData} (h : ρ[i]? = some (.bor d)) : IsSl ρ i d := .inr (.inl h)
theorem IsSl.l {i : Nat} {d : PyData} (h : ρ[i]? = some (.lkd d)) : IsSl ρ i d := .inr (.inr h)
/-- where a dict stands -/
theorem dct_at [Pu β] {i : Nat} {d : Dct κ β} (st : ST K T Bs po ρ φ σ H n) (hi : IsSl ρ i (enc d)) : ∃ a kvs, σ[i]? = some (some (.ref a)) ∧ Rd H a (.dT kvs) ∧ po ≠ some a ∧ Ents K H kvs d.l := by
  rcases hi with hi | hi | hi
  · obtain ⟨v, e1, e2, e3, e4⟩ := st.sl i _ hi
    obtain ⟨a, kvs, rfl, c1, c2, c3⟩ := im_dct e2
    exact ⟨a, kvs, e1, .inl c1, (e4 a (by rw [c3]; exact List.mem_cons_self)).1, c2⟩
  · obtain ⟨v, e1, e2, e3⟩ := st.sl i _ hi
    obtain ⟨a, kvs, rfl, c1, c2, c3⟩ := im_dct e2
    exact ⟨a, kvs, e1, .inl c1, (e3 a (by rw [c3]; exact List.mem_cons_self)).1, c2⟩
  · obtain ⟨a, od, u, e1, e2, e3, e4⟩ := st.sl i _ hi
    rcases e4 with ⟨kvs, ps, rfl, y2, y3, y4⟩ | ⟨kvs, ps, rfl, y2, y3, y4⟩
    · have y2 : PyData.dict (d.l.map fun kv => (enc kv.1, enc kv.2)) = .dict ((.none, .none) :: ps) := y2
      have y2 := PyData.dict.inj y2
      cases hl : d.l with
      | nil => rw [hl] at y2; cases y2
      | cons x xs =>
        rw [hl, List.map_cons, List.cons.injEq] at y2
        have := congrArg Prod.fst y2.1
        rw [show ((enc x.1, enc x.2) : PyData × PyData).1 = enc x.1 from rfl, TK.en] at this
        cases this
    · have y2 : PyData.dict (d.l.map fun kv => (enc kv.1, enc kv.2)) = .dict ps := y2
      have y2 := PyData.dict.inj y2
      subst y2
      exact ⟨a, kvs, e1, .inr ⟨od, e3⟩, e2, (ents_of y3 y4).1⟩
theorem rd_af {a : Addr} {u : HO} (hp : po ≠ some a) (hm : Mtb u) (h : Rd H a u) (x : Af K T po H n H1 n1) : Rd H1 a u := by
  rcases h with z | ⟨o, z⟩
  · exact .inl (x.fr.keep a _ hp z hm.tbl)
  · exact .inr ⟨o, x.fr.keep a _ hp z fun ps q => nomatch q⟩
theorem Ents.getO {k : κ} : ∀ {kvs : List (List Key × V)} {l : List (κ × β)}, Ents K H kvs l → (valV kvs (TK.key k) = none ∧ dGet l k = none) ∨ ∃ v b, valV kvs (TK.key k) = some v ∧ dGet l k = some b ∧ Im K H v (enc b) []
  | _, _, .nil => .inl ⟨rfl, rfl⟩
  | _, _, .cons (k := k2) (b := b) (v := v2) h1 h2 => by
    unfold dGet
    rw [List.find?_cons]
    by_cases c : k2 = k
    · subst c
      refine .inr ⟨v2, b, valV_pos rfl, ?_, h1⟩
      rw [decide_eq_true rfl]
      rfl
    · rw [decide_eq_false (by exact c), valV_neg (show ¬ TK.key k2 = TK.key k from fun z => c (TK.inj _ _ z))]
      exact h2.getO
theorem re_dgetA [Pu β] [Pu κ] {i : Nat} {d : Dct κ β} {t : TE} {m : M κ} {f : Bool} (hi : IsSl ρ i (enc d)) (h : RE K T t ρ f m) : RE K T (tDGet (tVar i) t) ρ true (bindW m fun k => fun n P => ∃ b, dGet d.l k = some b ∧ P b n) := fun Bs po φ σ H n st P p Q q => by
  obtain ⟨a, kvs, h1, h2, h3, h4⟩ := dct_at st hi
  refine ⟨_, h1, h Bs po φ σ H n st _ p _ fun k n1 v H1 fp pa a1 i1 g1 => ?_⟩
  obtain ⟨b, hb, pb⟩ := pa
  obtain ⟨kb, rfl, hk⟩ := TK.obj i1
  obtain ⟨w, hw, iw⟩ := (h4.stab a1.fr.tup).get hb
  exact ⟨a, w, rfl, .inr ⟨kvs, TK.key k, kb, rd_af h3 trivial h2 a1, rfl, hk, hw.symm⟩, q b n1 w H1 [] pb a1 iw Fp.nil⟩
theorem re_din [Pu β] [Pu κ] {i : Nat} {d : Dct κ β} {t : TE} {m : M κ} {f : Bool} (hi : IsSl ρ i (enc d)) (h : RE K T t ρ f m) : RE K T (tDIn t (tVar i)) ρ true (bindW m fun k => retW (dGet d.l k).isSome) := fun Bs po φ σ H n st P p Q q => by
  obtain ⟨a, kvs, h1, h2, h3, h4⟩ := dct_at st hi
  refine h Bs po φ σ H n st _ p _ fun k n1 v H1 fp pa a1 i1 g1 => ⟨_, h1, a, _, rfl, .inr ⟨kvs, TK.key k, (TK.obj i1).choose, rd_af h3 trivial h2 a1, (TK.obj i1).choose_spec.1, (TK.obj i1).choose_spec.2, rfl⟩, ?_⟩
  rcases (h4.stab a1.fr.tup).getO (k := k) with ⟨e1, e2⟩ | ⟨w, b, e1, e2, _⟩
  · have pa : P (dGet d.l k).isSome n1 := pa
    rw [e2] at pa
    rw [e1]
    exact q _ n1 _ H1 [] pa a1 (.bl _) Fp.nil
  · have pa : P (dGet d.l k).isSome n1 := pa
    rw [e2] at pa
    rw [e1]
    exact q _ n1 _ H1 [] pa a1 (.bl _) Fp.nil
theorem re_dnin [Pu β] [Pu κ] {i : Nat} {d : Dct κ β} {t : TE} {m : M κ} {f : Bool} (hi : IsSl ρ i (enc d)) (h : RE K T t ρ f m) : RE K T (tDNotIn t (tVar i)) ρ true (bindW m fun k => retW (!(dGet d.l k).isSome)) := fun Bs po φ σ H n st P p Q q => by
  obtain ⟨a, kvs, h1, h2, h3, h4⟩ := dct_at st hi
  refine h Bs po φ σ H n st _ p _ fun k n1 v H1 fp pa a1 i1 g1 => ⟨_, h1, a, _, rfl, .inr ⟨kvs, TK.key k, (TK.obj i1).choose, rd_af h3 trivial h2 a1, (TK.obj i1).choose_spec.1, (TK.obj i1).choose_spec.2, rfl⟩, ?_⟩
  have pa : P (!(dGet d.l k).isSome) n1 := pa
  rcases (h4.stab a1.fr.tup).getO (k := k) with ⟨e1, e2⟩ | ⟨w, b, e1, e2, _⟩
  · rw [e2] at pa
    rw [e1]
    exact q _ n1 _ H1 [] pa a1 (.bl _) Fp.nil
  · rw [e2] at pa
    rw [e1]
    exact q _ n1 _ H1 [] pa a1 (.bl _) Fp.nil
/-- d.get(k, x) -/
theorem re_dget2 [Pu β] [Pu κ] {i : Nat} {d : Dct κ β} {t u : TE} {m : M κ} {m2 : M β} {f f2 : Bool} (hi : IsSl ρ i (enc d)) (h : RE K T t ρ f m) (h2 : RE K T u ρ f2 m2) : RE K T (tDGet2 (tVar i) t u) ρ true (b2W m m2 fun k x => retW ((dGet d.l k).getD x)) := fun Bs po φ σ H n st P p Q q => by
  obtain ⟨a, kvs, e1, e2, e3, e4⟩ := dct_at st hi
  refine ⟨_, e1, a, rfl, .inr ⟨kvs, e2⟩, h Bs po φ σ H n st _ p _ fun k n1 v H1 fp pa a1 i1 g1 => h2 Bs po φ σ H1 n1 (st.af a1) _ pa _ fun x n2 w H2 fq pb a2 i2 g2 => ?_⟩
  have a12 := a1.trans a2
  have z1 := Pu.pu i1
  subst z1
  have z2 := Pu.pu i2
  subst z2
  obtain ⟨kb, rfl, hk⟩ := TK.obj (i1.af (po := po) (fun b hb => absurd hb List.not_mem_nil) a2.fr)
  refine ⟨_, .inr ⟨kvs, TK.key k, kb, rd_af e3 trivial e2 a12, rfl, hk, rfl⟩, ?_⟩
  have pb : P ((dGet d.l k).getD x) n2 := pb
  rcases (e4.stab a12.fr.tup).getO (k := k) with ⟨c1, c2⟩ | ⟨y, b, c1, c2, c3⟩
  · rw [c2] at pb
    rw [c1]
    exact q _ n2 _ H2 [] pb a12 i2 Fp.nil
  · rw [c2] at pb
    rw [c1]
    exact q _ n2 _ H2 [] pb a12 c3 Fp.nil
/-- the last two of three -/
theorem re_t3sl {α β γ : Type} [Enc α] [Enc β] [Enc γ] [Pu α] [Pu β] [Pu γ] {t : TE} {m : M (T3 α β γ)} {f : Bool} (h : RE K T t ρ f m) : RE K T (tSl (rSlA K) t (tPart (tC (.int 1))) tNoPart) ρ true (mapW (fun x : T3 α β γ => (x.b, x.c)) m) := fun Bs po φ σ H n st P p Q q =>
  h Bs po φ σ H n st _ p _ fun x n1 v H1 fp pa a1 i1 g1 => by
    have z := Pu.pu i1
    subst z
    cases i1 with
    | tup e b =>
      obtain ⟨v1, v2, v3, f1, f2, f3, rfl, h1, h2, h3, he⟩ := ima3 b
      have y2 := Pu.pu h2
      have y3 := Pu.pu h3
      subst y2 y3
      refine ⟨1, rfl, _, _, rfl, e.q, fun w => ?_, fun w t nt => ?_⟩
      · exact absurd w (show ¬ (HT.sIx 3 0 (some 1) = 0 ∧ HT.sIx 3 3 none = 3) by decide)
      · have s := same_new (Same.refl H1) nt (o := .tup [v2, v3])
        exact q (x.b, x.c) n1 _ _ [] pa (a1.trans (Af.same s)) (.tup upd_same (.cons (h2.same s) (.cons (h3.same s) .nil rfl) rfl)) Fp.nil
end
/-! ### d.setdefault(k, v) as a statement -/
section
variable {κ β : Type} [Enc κ] [Enc β] [TK κ]
def dSet (l : List (κ × β)) (k : κ) (v : β) : List (κ × β) := if (dGet l k).isSome = true then l else dPut l k v
variable {K : PySem.W.Frag} {T : List (Addr × Str)} {ρ : List Sl} {C : Option Addr → Prop}
variable {α R S B : Type} [Enc α] [Enc R] {ρn : S → List Sl} {ρb : B → List Sl}
theorem rb_setd [Pu β] [Pu κ] {te tk : TE} {tu : TS} {i : Nat} {d : Dct κ β} {m : M β} {mk : M κ} {k : κ → β → M (Ctl R B S)} {ρ2 : κ → β → List Sl} {f f2 : Bool} (hi : ρ[i]? = some (.own (enc d))) (hk : RE K T tk ρ f mk) (he : RE K T te ρ f2 m)
    (e : ∀ a b, ρ.set i (.own (enc (⟨dSet d.l a b⟩ : Dct κ β))) = ρ2 a b) (hu : ∀ a b, RB K T C tu (ρ2 a b) (k a b) ρn ρb) :
    RB K T C (tSeq (tDrop (tSetdT (tVar i) tk te)) tu) ρ (b2W mk m fun a b => reqW (d.l.length < sizeLine) (k a b)) ρn ρb := fun Bs po hC σ H n ⟨φ, st⟩ P p D h1 h2 h3 => by
  obtain ⟨v, e1, e2, e3, e4⟩ := st.sl i _ hi
  obtain ⟨a, kvs, rfl, hT, hE, eφ⟩ := im_dct e2
  have ha : a ∈ φ i := by rw [eφ]; exact List.mem_cons_self
  refine ⟨_, e1, a, rfl, .inr ⟨kvs, .inl hT⟩, hk Bs po φ σ H n st _ p _ fun y n1 u H1 fp pa a1 im1 g1 => ?_⟩
  refine he Bs po φ σ H1 n1 (st.af a1) _ pa _ fun x n2 w H2 fp2 pb a2 im2 g2 => ?_
  have a12 := a1.trans a2
  have z1 := Pu.pu im1
  subst z1
  have z2 := Pu.pu im2
  subst z2
  obtain ⟨kb, rfl, hkb⟩ := TK.obj (im1.af (po := po) (fun b hb => absurd hb List.not_mem_nil) a2.fr)
  have st2 := st.af a12
  have hT2 := a12.fr.keep a _ (e4 a ha).1 hT fun ps z => nomatch z
  have hE2 := hE.stab a12.fr.tup
  have hil := (List.getElem?_eq_some_iff.mp hi).1
  refine ⟨kvs, TK.key y, kb, hT2, rfl, hkb, by rw [hE.len]; exact pb.1, fun u' hu' => ?_, fun hn => ?_⟩
  · have ey : dSet d.l y x = d.l := by
      unfold dSet
      rcases hE2.getO (k := y) with ⟨c1, c2⟩ | ⟨w', b, c1, c2, c3⟩
      · rw [c1] at hu'; cases hu'
      · rw [c2]; rfl
    have st3 : ST K T Bs po (ρ2 y x) φ σ H2 n2 := by
      rw [← e y x, ey]
      have : ρ.set i (.own (enc (⟨d.l⟩ : Dct κ β))) = ρ := List.ext_getElem? fun j => by
        rw [List.getElem?_set]
        by_cases c : i = j
        · subst c
          rw [if_pos rfl, if_pos hil, hi]
        · rw [if_neg c]
      rw [this]
      exact st2
    exact (hu y x).go (Bs := Bs) hC ⟨φ, st3⟩ pb.2 (fun b o z => z) a12.fr.tup h1 h2 h3
  · have ey : dSet d.l y x = dPut d.l y x := by
      unfold dSet
      rcases hE2.getO (k := y) with ⟨c1, c2⟩ | ⟨w', b, c1, c2, c3⟩
      · rw [c2]; rfl
      · rw [c1] at hn; cases hn
    have tup : ∀ b xs, TupR H2 b xs → TupR (upd H2 a (.dT (putK kvs (TK.key y) w))) b xs := fun b xs z => by
      unfold TupR at z ⊢
      rw [upd_ne (fun q => by rw [q, hT2] at z; cases z)]
      exact z
    obtain ⟨st3, tp⟩ := st2.writeM (d' := enc (⟨dPut d.l y x⟩ : Dct κ β)) (u' := .dT (putK kvs (TK.key y) w)) hi e1 ha hT2 trivial (by
      rw [eφ]
      exact im_ofDct upd_same ((hE2.put (k := y) im2).stab tup))
    have := e y x
    rw [ey] at this
    rw [this] at st3
    exact (hu y x).go (Bs := Bs) hC ⟨φ, st3⟩ pb.2 (fun b o z => z) (Tpk.trans a12.fr.tup tp) h1 h2 h3
end
/-! ### a comprehension that makes a dict -/
section
variable {α κ β : Type}
def dcW0 [Enc κ] [TK κ] (mt : α → M Bool) (mk : α → M κ) (mv : α → M β) : List α → List (κ × β) → M (Dct κ β)
  | [], acc => retW ⟨acc⟩
  | x :: xs, acc => bindW (mt x) fun b => if b = true then bindW (mk x) fun k => bindW (mv x) fun v => dcW0 mt mk mv xs (dPut acc k v) else dcW0 mt mk mv xs acc
theorem dcW_ex [Enc κ] [TK κ] (mt : α → M Bool) (mk : α → M κ) (mv : α → M β) : ∃ g : List α → List (κ × β) → M (Dct κ β), (∀ acc, g [] acc = retW ⟨acc⟩) ∧ ∀ x xs acc, g (x :: xs) acc = bindW (mt x) fun b => if b = true then bindW (mk x) fun k => bindW (mv x) fun v => g xs (dPut acc k v) else g xs acc := ⟨dcW0 mt mk mv, fun _ => rfl, fun _ _ _ => rfl⟩
/-- sealed -/
noncomputable def dcW [Enc κ] [TK κ] (mt : α → M Bool) (mk : α → M κ) (mv : α → M β) : List α → List (κ × β) → M (Dct κ β) := Classical.choose (dcW_ex mt mk mv)
theorem dcW_nil [Enc κ] [TK κ] {mt : α → M Bool} {mk : α → M κ} {mv : α → M β} {acc : List (κ × β)} : dcW mt mk mv [] acc = retW ⟨acc⟩ := (Classical.choose_spec (dcW_ex mt mk mv)).1 acc
theorem dcW_cons [Enc κ] [TK κ] {mt : α → M Bool} {mk : α → M κ} {mv : α → M β} {x : α} {xs : List α} {acc : List (κ × β)} : dcW mt mk mv (x :: xs) acc = bindW (mt x) fun b => if b = true then bindW (mk x) fun k => bindW (mv x) fun v => dcW mt mk mv xs (dPut acc k v) else dcW mt mk mv xs acc := (Classical.choose_spec (dcW_ex mt mk mv)).2 x xs acc
end
theorem dPut_len {κ β : Type} [Enc κ] [TK κ] {l : List (κ × β)} {k : κ} {v : β} : (dPut l k v).length ≤ l.length + 1 := by
  unfold dPut
  split
  · rw [List.length_map]; omega
  · rw [List.length_append]; exact Nat.le_refl _
section
variable {K : PySem.W.Frag} {T : List (Addr × Str)} {ρ : List Sl}
variable {α κ β : Type} [Enc α] [Enc κ] [Enc β] [TK κ]
theorem re_dcT [Pu β] [Pu κ] {wi : TI} {g : TG} {tt : TT} {tk tv : TE} {vs ts : List Nat} {mi : M (List α)} {mt : α → M Bool} {mk : α → M κ} {mv : α → M β} {ρw : List Sl} {ρx : α → List Sl} {f f2 : Bool} (hw : wipeR ρ vs = ρw) (hi : RI K T wi ρ mi) (hts : ∀ t ∈ ts, t ∈ vs) (hg : ∀ a, RG K T ts g a ρw (ρx a))
    (ht : ∀ a, RT K T tt (ρx a) (mt a)) (hk : ∀ a, RE K T tk (ρx a) f (mk a)) (hv : ∀ a, RE K T tv (ρx a) f2 (mv a)) : RE K T (tDcT wi g tt tk tv vs) ρ true (bindW mi fun xs => reqW (xs.length ≤ sizeLine) (dcW mt mk mv xs [])) := fun Bs po φ σ H n st P p Q q =>
  hi Bs po φ σ H n st _ p _ fun xs n1 J H1 fi pa a1 ok hfp hfi D nD => by
    subst hw
    obtain ⟨⟨G, Y, w, g0, gs, gy⟩, hlst⟩ := ok
    have st1 := st.af a1
    have hDp : po ≠ some D := st1.fresh_pot fun o e => by rw [nD] at e; cases e
    have sD : Same H1 (upd H1 D (.dT [])) := same_new (Same.refl H1) nD
    have hfD : ∀ b ∈ fi, b ≠ D := fun b hb e => by
      obtain ⟨l, hl⟩ := hlst b hb
      rw [e, nD] at hl
      cases hl
    refine walk_W w (fun i H' => ∃ (n' : Nat) (acc : List (κ × β)) (kvs : List (List Key × V)), Af K T po H1 n1 H' n' ∧ G H' ∧ H' D = some (.dT kvs) ∧ Ents K H' kvs acc ∧ acc.length ≤ i ∧ dcW mt mk mv (xs.drop i) acc n' P) ⟨n1, [], [], Af.same sD, gs H1 _ (fun b hb l e => sD b _ e) (fun b l e => sD _ _ e) (fun b hb => (by obtain ⟨l, hl⟩ := hlst b hb; exact ⟨l, hl, hl⟩)) g0, upd_same, .nil, Nat.le_refl _, by rw [List.drop_zero]; exact pa.2⟩ (fun i H' _ z => by obtain ⟨_, _, _, _, z, _⟩ := z; exact z) ?_ ?_
    · rintro i x HA HB hi' ⟨n', acc, kvs, af, gA, eD, hE, hacc, pl⟩ hy
      obtain ⟨a, ha, sAB, imx⟩ := gy i HA x HB hi' gA hy
      have afB := af.trans (Af.same sAB)
      have stB := (st1.af afB).wipe vs
      rw [drop_at hi' ha, dcW_cons] at pl
      have keepG : ∀ HC nC, Af K T po H1 n1 HC nC → G HA → (∀ b ∈ fi, ∀ l, HA b = some (.lst l) → HC b = some (.lst l)) → (∀ b l, TupR HA b l → TupR HC b l) → G HC := fun HC nC afC gA' h1 h2 => gs HA HC h1 h2 (fun b hb => by
        obtain ⟨l, hl⟩ := hlst b hb
        exact ⟨l, hl, af.fr.keep b _ (hfp b hb) hl fun ps z => nomatch z⟩) gA'
      refine hg a Bs po φ (L2.wipe σ vs) HB n' stB x [] imx List.nodup_nil (fun b hb => absurd hb List.not_mem_nil) _ fun σ' φ' stx hwp _ => ⟨(hwp vs hts).trans (wipe_wipe vs), ?_⟩
      refine ht a Bs po φ' σ' HB n' stx _ pl _ fun b n2 HC pb a2 => ?_
      have eDB := sAB _ _ eD
      have eDC := a2.fr.keep D _ hDp eDB fun ps z => nomatch z
      have hEC := (hE.stab (fun b l e => sAB _ _ e)).stab a2.fr.tup
      cases b with
      | false =>
        refine (if_neg (by decide)).mpr ⟨n2, acc, kvs, afB.trans a2, ?_, eDC, hEC, by omega, pb⟩
        exact keepG HC n2 (afB.trans a2) gA (fun b hb l e => a2.fr.keep b _ (hfp b hb) (sAB _ _ e) fun ps z => nomatch z) fun b l e => a2.fr.tup b l (sAB _ _ e)
      | true =>
        refine (if_pos rfl).mpr (hk a Bs po φ' σ' HC n2 (stx.af a2) _ pb _ fun y n3 u HE fp' pe a3 iy gy' => hv a Bs po φ' σ' HE n3 ((stx.af a2).af a3) _ pe _ fun z n4 u2 HF fq pf a4 iz gz => ?_)
        have y1 := Pu.pu iy
        subst y1
        have y2 := Pu.pu iz
        subst y2
        obtain ⟨kb, rfl, hkb⟩ := TK.obj (iy.af (po := po) (fun b hb => absurd hb List.not_mem_nil) a4.fr)
        have eDF := a4.fr.keep D _ hDp (a3.fr.keep D _ hDp eDC fun ps z => nomatch z) fun ps z => nomatch z
        have hEF := (hEC.stab a3.fr.tup).stab a4.fr.tup
        have afF := ((afB.trans a2).trans a3).trans a4
        have keepU : ∀ b o, b ≠ D → HF b = some o → (upd HF D (.dT (putK kvs (TK.key y) u2))) b = some o := fun b o nb e => by rw [upd_ne nb]; exact e
        have tupU : ∀ b l, TupR HF b l → TupR (upd HF D (.dT (putK kvs (TK.key y) u2))) b l := fun b l e => keepU _ _ (fun z => by unfold TupR at e; rw [z, eDF] at e; cases e) e
        have afU : Af K T po H1 n1 (upd HF D (.dT (putK kvs (TK.key y) u2))) n4 := by
          refine ⟨⟨fun b o hb e t => ?_, fun b l e => tupU b l (afF.fr.tup b l e)⟩, fun t => tabs_updM (afF.tabs t) eDF trivial, fun p hp pp => ?_⟩
          · exact keepU b o (fun z => by rw [z, nD] at e; cases e) (afF.fr.keep b o hb e t)
          · obtain ⟨x1, x2, x3, e, h⟩ := afF.pot p hp pp
            exact ⟨x1, x2, x3, keepU _ _ (fun z => hDp (by rw [← z]; exact hp)) e, h⟩
        refine ⟨kvs, TK.key y, kb, rfl, eDF, hkb, ?_, n4, dPut acc y z, putK kvs (TK.key y) u2, afU, ?_, upd_same, (hEF.put iz).stab tupU, ?_, pf⟩
        · rw [hEF.len]
          have := pa.1
          omega
        · exact keepG _ n4 afU gA (fun b hb l e => keepU b _ (hfD b hb) (a4.fr.keep b _ (hfp b hb) (a3.fr.keep b _ (hfp b hb) (a2.fr.keep b _ (hfp b hb) (sAB _ _ e) fun ps z => nomatch z) fun ps z => nomatch z) fun ps z => nomatch z)) fun b l e => tupU b l (a4.fr.tup b l (a3.fr.tup b l (a2.fr.tup b l (sAB _ _ e))))
        · have := dPut_len (l := acc) (k := y) (v := z)
          omega
    · rintro HA ⟨n', acc, kvs, af, gA, eD, hE, hacc, pl⟩
      rw [List.drop_length, dcW_nil] at pl
      exact q ⟨acc⟩ n' _ HA [D] pl (a1.trans af) (im_ofDct eD hE) (Fp.back a1.fr (fp_new st1 ⟨List.nodup_cons.mpr ⟨List.not_mem_nil, List.nodup_nil⟩, fun x hx => by rw [List.mem_singleton.mp hx]; exact nD⟩))
end
end Bf
namespace Bf
open PySem PySem.Spec PyProof.Rows L2 LamX NdefX
/-! ## what is told of a plan -/
inductive Vd where
  | wrong (a b : Nat)
  | lacks (a b : Nat)
  | done (n : Int)
deriving DecidableEq
def Vd.en : Vd → PyData
  | .wrong a b => .tuple [.str "wrong", .int a, .int b]
  | .lacks a b => .tuple [.str "lacks", .int a, .int b]
  | .done n => .tuple [.str "done", .int n]
instance : Enc Vd := ⟨Vd.en⟩
instance : Pu Vd := ⟨fun {K H v a fp} h => by
  cases a with
  | wrong a b =>
    cases h with
    | tup e z => obtain ⟨v, w, u, f1, f2, f3, rfl, h1, h2, h3, rfl⟩ := ima3 z; cases h1; cases h2; cases h3; rfl
  | lacks a b =>
    cases h with
    | tup e z => obtain ⟨v, w, u, f1, f2, f3, rfl, h1, h2, h3, rfl⟩ := ima3 z; cases h1; cases h2; cases h3; rfl
  | done n =>
    cases h with
    | tup e z => obtain ⟨v, w, f1, f2, rfl, h1, h2, rfl⟩ := ima2 z; cases h1; cases h2; rfl⟩
instance : Tpl Vd := ⟨fun a => by cases a <;> exact ⟨_, rfl⟩⟩
instance : Shp Vd := ⟨1, fun a => by cases a <;> (show (_ && _) = true; rw [Bool.and_eq_true]; exact ⟨by decide +kernel, rfl⟩), fun a => by cases a <;> rfl, fun a => by cases a <;> exact Nat.le_refl _⟩
instance : Eqv Vd := ⟨fun x y => by
  have e1 : (("wrong" : Str) == ("lacks" : Str)) = false := by decide +kernel
  have e2 : (("wrong" : Str) == ("done" : Str)) = false := by decide +kernel
  have e3 : (("lacks" : Str) == ("wrong" : Str)) = false := by decide +kernel
  have e4 : (("lacks" : Str) == ("done" : Str)) = false := by decide +kernel
  have e5 : (("done" : Str) == ("wrong" : Str)) = false := by decide +kernel
  have e6 : (("done" : Str) == ("lacks" : Str)) = false := by decide +kernel
  have no : ∀ (x y : Str) (ds es : List PyData), (x == y) = false → PyData.eqv (.tuple (.str x :: ds)) (.tuple (.str y :: es)) = true → False := fun x y ds es e h => by
    have h : ((x == y) && PyData.eqvAll ds es) = true := h
    rw [e] at h
    cases h
  have two : ∀ a b c d : Nat, ((((a : Nat) : Int) == ((c : Nat) : Int)) && ((((b : Nat) : Int) == ((d : Nat) : Int)) && true)) = true ↔ a = c ∧ b = d := fun a b c d => by
    rw [Bool.and_true, Bool.and_eq_true, beq_iff_eq, beq_iff_eq]
    omega
  cases x with
  | wrong a b =>
    cases y with
    | wrong c d =>
      show (("wrong" : Str) == ("wrong" : Str) && _) = true ↔ _
      rw [beq_self_eq_true, Bool.true_and]
      exact (two a b c d).trans ⟨fun h => by rw [h.1, h.2], fun h => (by cases h; exact ⟨rfl, rfl⟩)⟩
    | lacks c d => exact ⟨fun h => (no _ _ _ _ e1 h).elim, fun h => nomatch h⟩
    | done n => exact ⟨fun h => (no _ _ _ _ e2 h).elim, fun h => nomatch h⟩
  | lacks a b =>
    cases y with
    | wrong c d => exact ⟨fun h => (no _ _ _ _ e3 h).elim, fun h => nomatch h⟩
    | lacks c d =>
      show (("lacks" : Str) == ("lacks" : Str) && _) = true ↔ _
      rw [beq_self_eq_true, Bool.true_and]
      exact (two a b c d).trans ⟨fun h => by rw [h.1, h.2], fun h => (by cases h; exact ⟨rfl, rfl⟩)⟩
    | done n => exact ⟨fun h => (no _ _ _ _ e4 h).elim, fun h => nomatch h⟩
  | done m =>
    cases y with
    | wrong c d => exact ⟨fun h => (no _ _ _ _ e5 h).elim, fun h => nomatch h⟩
    | lacks c d => exact ⟨fun h => (no _ _ _ _ e6 h).elim, fun h => nomatch h⟩
    | done n =>
      show (("done" : Str) == ("done" : Str) && ((m == n) && true)) = true ↔ _
      rw [beq_self_eq_true, Bool.true_and, Bool.and_true, beq_iff_eq]
      exact ⟨fun h => by rw [h], fun h => (by cases h; rfl)⟩⟩
def Vd.nm : Vd → Str
  | .wrong _ _ => "wrong"
  | .lacks _ _ => "lacks"
  | .done _ => "done"
/-- the second as a whole number -/
def Vd.nb : Vd → Int
  | .wrong a _ => a
  | .lacks a _ => a
  | .done n => n
section
variable {K : PySem.W.Frag} {T : List (Addr × Str)} {ρ : List Sl}
theorem re_vd3 {ta tb : TE} {ma mb : M Nat} {x : Str} {c : Nat → Nat → Vd} (hx : ∀ a b, enc (c a b) = .tuple [.str x, .int (a : Int), .int (b : Int)]) {f1 f2 : Bool} (ha : RE K T ta ρ f1 ma) (hb : RE K T tb ρ f2 mb) : RE K T (tTup (tCons (tC (.str x)) (tCons ta (tCons tb tNil)))) ρ true (b2W ma mb fun a b => retW (c a b)) := fun Bs po φ σ H n st P p Q q =>
  ha Bs po φ σ H n st _ p _ fun a n1 v H1 fp pa a1 i1 g1 => hb Bs po φ σ H1 n1 (st.af a1) _ pa _ fun b n2 w H2 fq pb a2 i2 g2 => by
    cases i1
    cases i2
    refine ⟨by show 3 ≤ sizeLine; decide, fun t nt => ?_⟩
    have s := same_new (Same.refl H2) nt (o := .tup [.str x, .int (a : Int), .int (b : Int)])
    refine q (c a b) n2 _ _ [] pb ((a1.trans a2).trans (Af.same s)) ?_ Fp.nil
    rw [hx]
    exact .tup upd_same (.cons (.str _) (.cons (.int _) (.cons (.int _) .nil rfl) rfl) rfl)
theorem re_vd2 {ta : TE} {ma : M Int} {f1 : Bool} (ha : RE K T ta ρ f1 ma) : RE K T (tTup (tCons (tC (.str "done")) (tCons ta tNil))) ρ true (mapW Vd.done ma) := fun Bs po φ σ H n st P p Q q =>
  ha Bs po φ σ H n st _ p _ fun a n1 v H1 fp pa a1 i1 g1 => by
    cases i1
    refine ⟨by show 2 ≤ sizeLine; decide, fun t nt => ?_⟩
    have s := same_new (Same.refl H1) nt (o := .tup [.str "done", .int a])
    exact q (Vd.done a) n1 _ _ [] pa (a1.trans (Af.same s)) (.tup upd_same (.cons (.str _) (.cons (.int _) .nil rfl) rfl)) Fp.nil
theorem re_y0 {t : TE} {f : Bool} {m : M Vd} (h : RE K T t ρ f m) : RE K T (tOp (L2.rIxT K) t (tC (.int 0))) ρ true (mapW Vd.nm m) := fun Bs po φ σ H n st P p Q q => h Bs po φ σ H n st _ p _ fun x n1 v H1 fp pa a1 i1 g1 => by
  cases x with
  | wrong a b =>
    cases i1 with
    | tup e b => obtain ⟨v1, v2, v3, f1, f2, f3, rfl, h1, h2, h3, _⟩ := ima3 b; cases h1; exact ⟨_, _, _, _, rfl, rfl, e.q, rfl, q _ n1 _ H1 [] pa a1 (.str _) Fp.nil⟩
  | lacks a b =>
    cases i1 with
    | tup e b => obtain ⟨v1, v2, v3, f1, f2, f3, rfl, h1, h2, h3, _⟩ := ima3 b; cases h1; exact ⟨_, _, _, _, rfl, rfl, e.q, rfl, q _ n1 _ H1 [] pa a1 (.str _) Fp.nil⟩
  | done a =>
    cases i1 with
    | tup e b => obtain ⟨v1, v2, f1, f2, rfl, h1, h2, _⟩ := ima2 b; cases h1; exact ⟨_, _, _, _, rfl, rfl, e.q, rfl, q _ n1 _ H1 [] pa a1 (.str _) Fp.nil⟩
theorem re_y1 {t : TE} {f : Bool} {m : M Vd} (h : RE K T t ρ f m) : RE K T (tOp (L2.rIxT K) t (tC (.int 1))) ρ true (mapW Vd.nb m) := fun Bs po φ σ H n st P p Q q => h Bs po φ σ H n st _ p _ fun x n1 v H1 fp pa a1 i1 g1 => by
  cases x with
  | wrong a b =>
    cases i1 with
    | tup e b => obtain ⟨v1, v2, v3, f1, f2, f3, rfl, h1, h2, h3, _⟩ := ima3 b; cases h2; exact ⟨_, _, _, _, rfl, rfl, e.q, rfl, q _ n1 _ H1 [] pa a1 (.int _) Fp.nil⟩
  | lacks a b =>
    cases i1 with
    | tup e b => obtain ⟨v1, v2, v3, f1, f2, f3, rfl, h1, h2, h3, _⟩ := ima3 b; cases h2; exact ⟨_, _, _, _, rfl, rfl, e.q, rfl, q _ n1 _ H1 [] pa a1 (.int _) Fp.nil⟩
  | done a =>
    cases i1 with
    | tup e b => obtain ⟨v1, v2, f1, f2, rfl, h1, h2, _⟩ := ima2 b; cases h2; exact ⟨_, _, _, _, rfl, rfl, e.q, rfl, q _ n1 _ H1 [] pa a1 (.int _) Fp.nil⟩
end
/-! ## dicts with whole numbers for keys -/
structure DcN (β : Type) where
  l : List (Nat × β)
instance {β : Type} [Enc β] : Enc (DcN β) := ⟨fun d => .dict ((.none, .none) :: d.l.map fun kv => (.int (kv.1 : Int), enc kv.2))⟩
section
variable {β : Type} [Enc β]
def kPut (l : List (Nat × β)) (k : Nat) (v : β) : List (Nat × β) := if (l.any fun kv => decide (kv.1 = k)) = true then l.map (fun kv => if kv.1 = k then (kv.1, v) else kv) else l ++ [(k, v)]
def kGet (l : List (Nat × β)) (k : Nat) : Option β := (l.find? fun kv => decide (kv.1 = k)).map (·.2)
abbrev nK (n : Nat) : Key := .inl (n : Int)
theorem nK_inj {a b : Nat} (h : nK a = nK b) : a = b := by
  have := Sum.inl.inj h
  omega
inductive EntN (K : PySem.W.Frag) (H : Hp) : List (Key × V) → List (Nat × β) → Prop
  | nil : EntN K H [] []
  | cons {k : Nat} {b : β} {v : V} {kvs : List (Key × V)} {l : List (Nat × β)} : Im K H v (enc b) [] → EntN K H kvs l → EntN K H ((nK k, v) :: kvs) ((k, b) :: l)
variable {K : PySem.W.Frag} {H H' : Hp}
theorem entN_of [Pu β] : ∀ {kvs : List (Key × V)} {l : List (Nat × β)} {fp : List Addr}, (l.map fun kv => ((.int (kv.1 : Int), enc kv.2) : PyData × PyData)).map Prod.fst = kvs.map (fun kv => kD kv.1) → ImA K H (kvs.map Prod.snd) ((l.map fun kv => ((.int (kv.1 : Int), enc kv.2) : PyData × PyData)).map Prod.snd) fp → EntN K H kvs l ∧ fp = []
  | [], [], _, _, h => by cases h; exact ⟨.nil, rfl⟩
  | [], _ :: _, _, e, _ => by cases e
  | _ :: _, [], _, e, _ => by cases e
  | (k, v) :: kvs, (a, b) :: l, _, e, h => by
    rw [List.map_cons, List.map_cons, List.map_cons, List.cons.injEq] at e
    cases h with
    | cons h1 h2 q =>
      have z := Pu.pu (α := β) h1
      subst z
      obtain ⟨h3, rfl⟩ := entN_of e.2 h2
      have ek : nK a = k := kD_inj (k := nK a) (l := k) e.1
      subst ek
      exact ⟨.cons h1 h3, q⟩
theorem EntN.to : ∀ {kvs : List (Key × V)} {l : List (Nat × β)}, EntN K H kvs l → (l.map fun kv => ((.int (kv.1 : Int), enc kv.2) : PyData × PyData)).map Prod.fst = kvs.map (fun kv => kD kv.1) ∧ ImA K H (kvs.map Prod.snd) ((l.map fun kv => ((.int (kv.1 : Int), enc kv.2) : PyData × PyData)).map Prod.snd) []
  | _, _, .nil => ⟨rfl, .nil⟩
  | _, _, .cons h1 h2 => by
    obtain ⟨h3, h4⟩ := EntN.to h2
    refine ⟨?_, .cons h1 h4 rfl⟩
    rw [List.map_cons, List.map_cons, List.map_cons, h3]
    rfl
theorem im_dcn [Pu β] {v : V} {d : DcN β} {fq : List Addr} (h : Im K H v (enc d) fq) : ∃ a kvs, v = .ref a ∧ H a = some (.dK kvs) ∧ EntN K H kvs d.l ∧ fq = [a] := by
  have h : Im K H v (.dict ((.none, .none) :: d.l.map fun kv => (.int (kv.1 : Int), enc kv.2))) fq := h
  generalize hp : ((.none, .none) :: d.l.map fun kv => ((.int (kv.1 : Int), enc kv.2) : PyData × PyData)) = ps at h
  cases h with
  | dicK e e1 e2 hA q =>
    obtain ⟨_, rfl⟩ := List.cons.inj hp
    rw [← e2] at hA
    obtain ⟨h1, rfl⟩ := entN_of e1 hA
    exact ⟨_, _, rfl, e, h1, q⟩
  | dicT e e1 e2 hA q =>
    subst hp
    rw [List.map_cons] at e1
    rename_i kvs _ _
    cases kvs with
    | nil => cases e1
    | cons x xs =>
      have := (List.cons.inj e1).1
      cases this
theorem im_ofDcn {a : Addr} {kvs : List (Key × V)} {d : DcN β} (e : H a = some (.dK kvs)) (h : EntN K H kvs d.l) : Im K H (.ref a) (enc d) [a] := .dicK e h.to.1 rfl h.to.2 rfl
theorem EntN.stab (ht : ∀ b xs, TupR H b xs → TupR H' b xs) : ∀ {kvs : List (Key × V)} {l : List (Nat × β)}, EntN K H kvs l → EntN K H' kvs l
  | _, _, .nil => .nil
  | _, _, .cons h1 h2 => .cons (Im.stab ht _ _ _ h1 fun b hb => absurd hb List.not_mem_nil) (h2.stab ht)
theorem EntN.any {k : Nat} : ∀ {kvs : List (Key × V)} {l : List (Nat × β)}, EntN K H kvs l → (kvs.any fun kv => decide (kv.1 = nK k)) = l.any fun kv => decide (kv.1 = k)
  | _, _, .nil => rfl
  | _, _, .cons (k := k2) h1 h2 => by
    rw [List.any_cons, List.any_cons, h2.any]
    congr 1
    by_cases e : k2 = k
    · subst e; simp
    · rw [decide_eq_false e, decide_eq_false fun z => e (nK_inj z)]
theorem EntN.put {k : Nat} {v : V} {b : β} (hv : Im K H v (enc b) []) {kvs : List (Key × V)} {l : List (Nat × β)} (h : EntN K H kvs l) : EntN K H (putK kvs (nK k) v) (kPut l k b) := by
  unfold putK kPut
  rw [h.any]
  by_cases c : (l.any fun kv => decide (kv.1 = k)) = true
  · rw [if_pos c, if_pos c]
    clear c
    induction h with
    | nil => exact .nil
    | @cons k2 b2 v2 kvs l h1 h2 ih =>
      rw [List.map_cons, List.map_cons]
      by_cases e : k2 = k
      · subst e
        rw [if_pos rfl, if_pos rfl]
        exact .cons hv ih
      · rw [if_neg e, if_neg fun z => e (nK_inj z)]
        exact .cons h1 ih
  · rw [if_neg c, if_neg c]
    clear c
    induction h with
    | nil => exact .cons hv .nil
    | cons h1 h2 ih => exact .cons h1 ih
theorem EntN.getO {k : Nat} : ∀ {kvs : List (Key × V)} {l : List (Nat × β)}, EntN K H kvs l → (valV kvs (nK k) = none ∧ kGet l k = none) ∨ ∃ v b, valV kvs (nK k) = some v ∧ kGet l k = some b ∧ Im K H v (enc b) []
  | _, _, .nil => .inl ⟨rfl, rfl⟩
  | _, _, .cons (k := k2) (b := b) (v := v2) h1 h2 => by
    unfold kGet
    rw [List.find?_cons]
    by_cases c : k2 = k
    · subst c
      refine .inr ⟨v2, b, valV_pos rfl, ?_, h1⟩
      rw [decide_eq_true rfl]
      rfl
    · rw [decide_eq_false (by exact c), valV_neg (show ¬ nK k2 = nK k from fun z => c (nK_inj z))]
      exact h2.getO
theorem EntN.len : ∀ {kvs : List (Key × V)} {l : List (Nat × β)}, EntN K H kvs l → kvs.length = l.length
  | _, _, .nil => rfl
  | _, _, .cons h1 h2 => by rw [List.length_cons, List.length_cons, h2.len]
end
section
variable {K : PySem.W.Frag} {T : List (Addr × Str)} {ρ : List Sl} {Bs : Addr → HO → Prop} {po : Option Addr} {φ : Nat → List Addr} {σ : L2.St} {H H1 : Hp} {n n1 : Nat}
variable {α β : Type} [Enc α] [Enc β]
theorem dcn_at [Pu β] {i : Nat} {d : DcN β} (st : ST K T Bs po ρ φ σ H n) (hi : IsSl ρ i (enc d)) : ∃ a kvs, σ[i]? = some (some (.ref a)) ∧ Rd H a (.dK kvs) ∧ po ≠ some a ∧ EntN K H kvs d.l := by
  rcases hi with hi | hi | hi
  · obtain ⟨v, e1, e2, e3, e4⟩ := st.sl i _ hi
    obtain ⟨a, kvs, rfl, c1, c2, c3⟩ := im_dcn e2
    exact ⟨a, kvs, e1, .inl c1, (e4 a (by rw [c3]; exact List.mem_cons_self)).1, c2⟩
  · obtain ⟨v, e1, e2, e3⟩ := st.sl i _ hi
    obtain ⟨a, kvs, rfl, c1, c2, c3⟩ := im_dcn e2
    exact ⟨a, kvs, e1, .inl c1, (e3 a (by rw [c3]; exact List.mem_cons_self)).1, c2⟩
  · obtain ⟨a, od, u, e1, e2, e3, e4⟩ := st.sl i _ hi
    rcases e4 with ⟨kvs, ps, rfl, y2, y3, y4⟩ | ⟨kvs, ps, rfl, y2, y3, y4⟩
    · have y2 : PyData.dict ((.none, .none) :: d.l.map fun kv => (.int (kv.1 : Int), enc kv.2)) = .dict ((.none, .none) :: ps) := y2
      obtain ⟨_, rfl⟩ := List.cons.inj (PyData.dict.inj y2)
      exact ⟨a, kvs, e1, .inr ⟨od, e3⟩, e2, (entN_of y3 y4).1⟩
    · have y2 : PyData.dict ((.none, .none) :: d.l.map fun kv => (.int (kv.1 : Int), enc kv.2)) = .dict ps := y2
      have y2 := PyData.dict.inj y2
      subst y2
      rw [List.map_cons] at y3
      cases kvs with
      | nil => cases y3
      | cons x xs =>
        have := (List.cons.inj y3).1
        cases this
theorem re_knew : RE K T tDNewK ρ true (retW (⟨[]⟩ : DcN β)) := fun Bs po φ σ H n st P p Q q => fun t nt => by
  have s := same_new (Same.refl H) nt (o := .dK [])
  exact q _ n _ _ [t] p (Af.same s) (im_ofDcn upd_same .nil) (fp_new st ⟨List.nodup_cons.mpr ⟨List.not_mem_nil, List.nodup_nil⟩, fun x hx => by rw [List.mem_singleton.mp hx]; exact nt⟩)
theorem re_kin [Pu β] {i : Nat} {d : DcN β} {t : TE} {m : M Nat} {f : Bool} (hi : IsSl ρ i (enc d)) (h : RE K T t ρ f m) : RE K T (tDIn t (tVar i)) ρ true (bindW m fun k => retW (kGet d.l k).isSome) := fun Bs po φ σ H n st P p Q q => by
  obtain ⟨a, kvs, h1, h2, h3, h4⟩ := dcn_at st hi
  refine h Bs po φ σ H n st _ p _ fun k n1 v H1 fp pa a1 i1 g1 => ?_
  cases i1
  refine ⟨_, h1, a, _, rfl, .inl ⟨kvs, nK k, rd_af h3 trivial h2 a1, rfl, rfl⟩, ?_⟩
  have pa : P (kGet d.l k).isSome n1 := pa
  rcases (h4.stab a1.fr.tup).getO (k := k) with ⟨e1, e2⟩ | ⟨w, b, e1, e2, _⟩
  · rw [e2] at pa
    rw [e1]
    exact q _ n1 _ H1 [] pa a1 (.bl _) Fp.nil
  · rw [e2] at pa
    rw [e1]
    exact q _ n1 _ H1 [] pa a1 (.bl _) Fp.nil
theorem re_knin [Pu β] {i : Nat} {d : DcN β} {t : TE} {m : M Nat} {f : Bool} (hi : IsSl ρ i (enc d)) (h : RE K T t ρ f m) : RE K T (tDNotIn t (tVar i)) ρ true (bindW m fun k => retW (!(kGet d.l k).isSome)) := fun Bs po φ σ H n st P p Q q => by
  obtain ⟨a, kvs, h1, h2, h3, h4⟩ := dcn_at st hi
  refine h Bs po φ σ H n st _ p _ fun k n1 v H1 fp pa a1 i1 g1 => ?_
  cases i1
  refine ⟨_, h1, a, _, rfl, .inl ⟨kvs, nK k, rd_af h3 trivial h2 a1, rfl, rfl⟩, ?_⟩
  have pa : P (!(kGet d.l k).isSome) n1 := pa
  rcases (h4.stab a1.fr.tup).getO (k := k) with ⟨e1, e2⟩ | ⟨w, b, e1, e2, _⟩
  · rw [e2] at pa
    rw [e1]
    exact q _ n1 _ H1 [] pa a1 (.bl _) Fp.nil
  · rw [e2] at pa
    rw [e1]
    exact q _ n1 _ H1 [] pa a1 (.bl _) Fp.nil
theorem re_kget [Pu β] {i : Nat} {d : DcN β} {t : TE} {m : M Nat} {f : Bool} (hi : IsSl ρ i (enc d)) (h : RE K T t ρ f m) : RE K T (tDGet (tVar i) t) ρ true (bindW m fun k => fun n P => ∃ b, kGet d.l k = some b ∧ P b n) := fun Bs po φ σ H n st P p Q q => by
  obtain ⟨a, kvs, h1, h2, h3, h4⟩ := dcn_at st hi
  refine ⟨_, h1, h Bs po φ σ H n st _ p _ fun k n1 v H1 fp pa a1 i1 g1 => ?_⟩
  obtain ⟨b, hb, pb⟩ := pa
  cases i1
  rcases (h4.stab a1.fr.tup).getO (k := k) with ⟨e1, e2⟩ | ⟨w, b2, e1, e2, iw⟩
  · rw [hb] at e2
    cases e2
  · rw [hb] at e2
    cases e2
    exact ⟨a, w, rfl, .inl ⟨kvs, nK k, rd_af h3 trivial h2 a1, rfl, e1.symm⟩, q b n1 w H1 [] pb a1 iw Fp.nil⟩
end
section
variable {K : PySem.W.Frag} {T : List (Addr × Str)} {ρ : List Sl} {C : Option Addr → Prop}
variable {α β R S B : Type} [Enc α] [Enc β] [Enc R] {ρn : S → List Sl} {ρb : B → List Sl}
/-- d[k] = e -/
theorem rb_kput [Pu β] {te tk : TE} {tu : TS} {i : Nat} {d : DcN β} {m : M β} {mk : M Nat} {k : β → Nat → M (Ctl R B S)} {ρ2 : β → Nat → List Sl} {f : Bool} (hi : ρ[i]? = some (.own (enc d))) (he : RE K T te ρ true m) (hk : RE K T tk ρ f mk)
    (e : ∀ b a, ρ.set i (.own (enc (⟨kPut d.l a b⟩ : DcN β))) = ρ2 b a) (hu : ∀ b a, RB K T C tu (ρ2 b a) (k b a) ρn ρb) :
    RB K T C (tSeq (tAsg te (gSub (tVar i) tk rSetD)) tu) ρ (b2W m mk fun b a => reqW (d.l.length < sizeLine) (k b a)) ρn ρb := fun Bs po hC σ H n ⟨φ, st⟩ P p D h1 h2 h3 => by
  refine he Bs po φ σ H n st _ p _ fun x n1 w H1 fp pa a1 im g => ?_
  have st1 := st.af a1
  obtain ⟨v, e1, e2, e3, e4⟩ := st1.sl i _ hi
  obtain ⟨a, kvs, rfl, hT, hE, eφ⟩ := im_dcn e2
  refine ⟨_, e1, hk Bs po φ σ H1 n1 st1 _ pa _ fun y n2 u H2 fp2 pb a2 im2 g2 => ?_⟩
  have z := Pu.pu im
  subst z
  cases im2
  have st2 := st1.af a2
  have ha : a ∈ φ i := by rw [eφ]; exact List.mem_cons_self
  have hT1 := a2.fr.keep a _ (e4 a ha).1 hT fun ps z => nomatch z
  have imx := im.af (po := po) (fun b hb => absurd hb List.not_mem_nil) a2.fr
  have hE2 := (hE.stab a2.fr.tup).put (k := y) imx
  refine ⟨a, _, rfl, DPut.k (k := nK y) hT1 (by rw [hE.len]; exact pb.1), ?_⟩
  have tup : ∀ b xs, TupR H2 b xs → TupR (upd H2 a (.dK (putK kvs (nK y) w))) b xs := fun b xs z => by
    unfold TupR at z ⊢
    rw [upd_ne (fun q => by rw [q, hT1] at z; cases z)]
    exact z
  obtain ⟨st3, tp⟩ := st2.writeM (d' := enc (⟨kPut d.l y x⟩ : DcN β)) (u' := .dK (putK kvs (nK y) w)) hi e1 ha hT1 trivial (by
    rw [eφ]
    exact im_ofDcn upd_same (hE2.stab tup))
  rw [e x y] at st3
  exact (hu x y).go (Bs := Bs) hC ⟨φ, st3⟩ pb.2 (fun b o z => z) (Tpk.trans (Tpk.trans a1.fr.tup a2.fr.tup) tp) h1 h2 h3
end
end Bf
namespace Bf
open PySem PySem.Spec PyProof.Rows L2 LamX NdefX
/-! ## calls by names with the last parameter left out -/
def gD {α : Type} (n : Nat) (π : List Nat) (z : α) (us ws : List α) : List α := gN n π us ws ++ [z]
theorem kbD {n m : Nat} {π : List Nat} {ps ks : List Str} {K : PySem.W.Frag} {x : Str} {st : Stmt} {f : Addr} {fd : FuncData} (F : FunS K x st f fd) (hp : 1 < ps.length) (hm : n + m = π.length)
    (h : ∀ (D : Addr) (doc pm : Value) (an : Option Addr) (cdv ct k : Value) (us ws : List Value), us.length = n → ws.length = m → KwChain D [("source", k)] (bindArgs (PySem.W.fnOf x x (defArgs st) (defBody st) (defScope st) .none (.ref D) doc pm an cdv ct) ⟨us, ks.zip ws⟩) (ps.zip (gN n π us ws ++ [k]))) :
    ∃ z : Value, KBinds K fd ps ks (gD n π z) (gD n π (V.int 0)) := by
  obtain ⟨oc, od, dV, kV, doc, pm, an, cdv, ct, osl, rfl, lk, hcd, hD, hK⟩ := F.ex
  rcases hD with ⟨_, rfl⟩ | ⟨z, _⟩
  · rcases hK with e | ⟨D, rfl, hq⟩
    · cases e
    · obtain ⟨qs, hl, rk, hks⟩ := kwd_vals hq
      match qs, hl, rk with
      | [k], _, rk =>
        have rk0 : Vals [V.int 0] [k] := rk
        refine ⟨k, fun s us ws X hl2 => ?_, fun r1 r2 => vals_app (gN_rel r1 r2) rk0⟩
        unfold gD at hl2
        rw [List.length_append, List.length_singleton] at hl2
        have hl3 : (gN n π us ws).length = ps.length - 1 := by
          have : ([k] : List Value).length = 1 := rfl
          omega
        obtain ⟨h1, h2⟩ := gN_len (m := ps.length - 1) (by omega) hl3
        exact BindsTo.of_looks fun M => KwChain.looks X hks (h D doc pm an cdv ct k us ws h1 (by omega))
  · exact absurd rfl z
theorem uw_notNP {α β : Type} [Enc α] [Enc β] {K : PySem.W.Frag} : UnW K (fun x H (Q : VK) => Q (.bl (!decide (x = .non))) H) (fun x : Option (α × β) => retW (!x.isNone)) := unw_pure fun x H v fp i1 n P p => by
  cases x with
  | none => cases i1; exact ⟨_, _, p, .bl _, fun Q q => q⟩
  | some x => cases i1; exact ⟨_, _, p, .bl _, fun Q q => q⟩
end Bf
namespace Bf
open PySem PySem.Spec PyProof.Rows L2
def topS (i : Nat) : Stmt := PySem.Challenge.pw_beatferry_k26_bounds_and_names.main.body.getD i (.Pass ⟨0, 0, 0, 0⟩)
abbrev sX1 : Stmt := topS 1
abbrev sHab : Stmt := topS 2
abbrev sArq : Stmt := topS 3
abbrev sRbd : Stmt := topS 4
abbrev sNxb : Stmt := topS 5
abbrev sAcr : Stmt := topS 7
abbrev sTra : Stmt := topS 9
abbrev sLea : Stmt := topS 10
abbrev sDue : Stmt := topS 11
abbrev sTol : Stmt := topS 12
abbrev sEnde : Stmt := topS 14
abbrev sPla : Stmt := topS 16
abbrev sTls : Stmt := topS 17
abbrev sJud : Stmt := topS 18
abbrev sWte : Stmt := topS 19
abbrev sOuc : Stmt := topS 20
abbrev sBou : Stmt := topS 21
abbrev sPot : Stmt := topS 23
abbrev sTake : Stmt := topS 24
abbrev sTwo : Stmt := topS 25
abbrev sDbl : Stmt := topS 26
abbrev sX27 : Stmt := topS 27
abbrev sLaw : Stmt := topS 27
abbrev sHas : Stmt := topS 2
abbrev sBits : Stmt := topS 1
abbrev sArc : Stmt := topS 3
abbrev sRound : Stmt := topS 4
theorem scPot : FnScope ["_law_script", "_law_k", "_law_cell", "_law_great"] ["_law_script", "_law_k"] (defScope sPot) := ⟨rfl, rfl, rfl, by decide +kernel, rfl, by decide +kernel, by decide +kernel⟩
theorem scTake : FnScope ["_law_pot_here", "_law_upto", "_law_digit", "_law_primes", "_law_prime", "_law_drawn"] ["_law_pot_here", "_law_upto"] (defScope sTake) := ⟨rfl, rfl, rfl, by decide +kernel, rfl, by decide +kernel, by decide +kernel⟩
section
variable {P : Program} {w : World} {K : PySem.W.Frag} {mg : Str → Option Value} {base : Heap} {f fT fO fF : Addr} {fd fdT fdO fdF : FuncData} {k : Nat}
/-! ### pot -/
def spPot (K : PySem.W.Frag) : Sp := fun vs H Q _ => ∃ (a : Addr) (ns : List Int) (k : Nat), vs = [.ref a, .int k] ∧ SqL K H a (ns.map V.int) ∧ ns.length ≤ 63 ∧ k ≤ 100 ∧
  ∀ H' p, Same H H' → H p = none → Pot H' p 0 → Q (.ref p) H'
theorem ok_pot (F : Fun K "_law_pot" "_law_pot" sPot f fd) (ml : mg "len" = none) (ma : mg "abs" = none) (mi : mg "int" = none) : FnOk P w K mg base CX0 (k + 1) f fd ["_law_script", "_law_k"] (spPot K) := by
  refine F.ok scPot (fun vs H Q E h => ?_) (fun cdv A outer s H vs Q E hr h => ?_)
  · obtain ⟨a, ns, k, rfl, _⟩ := h
    rfl
  · obtain ⟨a, ns, k, rfl, hS, hl, hk, q⟩ := h
    refine ⟨_, pss_cons (ps_set (i := 2) scPot.nd rfl (.inl rfl) (pe_ifExp (pt_cmpR op_lt (pv 1) (pe_callB call_len_seq (by rfl) ml PySem.boot_len (pa_cons (pv 0) pa_nil)) (nomark _)) (pe_ix ix_list (pv 0) (pv 1) (fun _ _ => rfl)) pe_int))
      (pss_cons (ps_set (i := 3) scPot.nd rfl (.inl rfl) (pe_op op_mul (pe_op op_mod (pe_callB call_abs (by rfl) ma (by decide +kernel) (pa_cons (pv 2) pa_nil)) (pe_op op_mulW (pe_op op_mulW (pe_op op_pow pe_int pe_int) (pe_op op_pow pe_int pe_int)) (pe_op op_pow pe_int pe_int)))
        (pe_callTy call_int1 (by rfl) mi (by decide +kernel) (pa_cons (pe_cmpR op_ge (pe_callB call_abs (by rfl) ma (by decide +kernel) (pa_cons (pv 2) pa_nil)) (pe_op op_pow pe_int pe_int) (nomark _)) pa_nil))))
      (pss_one (ps_ret (pe_lst (pa_cons (pv 3) (pa_cons (pe_op op_add (pe_op op_add (pe_op op_mod (pv 2) pe_int) (pe_op op_mul pe_int (pv 1))) pe_int) (pa_cons pe_int pa_nil))))))), ?_⟩
    have fin : ∀ (x y : Int), 0 ≤ x → 0 ≤ y → y < 4611686018427387904 → ∀ p, H p = none → Q (.ref p) (upd H p (.lst [.int x, .int y, .int 0])) := fun x y h1 h2 h3 p np =>
      q _ p (same_new (Same.refl H) np) np ⟨x, y, 0, upd_same, h1, h2, h3, by omega, by omega⟩
    refine rd_ifI (decide ((k : Int) < ((ns.map V.int).length : Int))) (fun _ => True) ?_ ?_ ?_ ?_
    · exact fun Q' h => ⟨.int k, rfl, .ref a, rfl, a, _, rfl, .inl hS, _, _, rfl, rfl, _, rfl, h⟩
    · intro e
      have z : (k : Int) < ((ns.map V.int).length : Int) := of_decide_eq_true e
      rw [List.length_map] at z
      have z2 : k < ns.length := by omega
      exact ⟨ns[k], trivial, fun Q' h => ⟨.ref a, rfl, .int k, rfl, a, _, _, _, rfl, rfl, hS, atI_nat (j := k) (by rw [List.getElem?_map, List.getElem?_eq_getElem z2]; rfl), h⟩⟩
    · exact fun _ => ⟨0, trivial, fun Q' h => h⟩
    intro c _
    dsimp only [gName, tSeq, tAsg]
    refine ⟨.int c, rfl, c, rfl, _, _, rfl, rfl, ⟨by decide, by decide, by decide⟩, _, _, rfl, rfl, ⟨by decide, by decide, by decide⟩, _, _, rfl, rfl, wide_mul (a := 200) (b := 200) (by decide +kernel) (by decide +kernel) (by decide) (by decide) (by decide), _, _, rfl, rfl, ⟨by decide, by decide, by decide⟩, _, _, rfl, rfl, wide_mul (a := 400) (b := 200) (by decide +kernel) (by decide +kernel) (by decide) (by decide) (by decide), _, _, rfl, rfl, (show (0 : Int) < (10 : Int) ^ (60 : Int).toNat * (10 : Int) ^ (60 : Int).toNat * (10 : Int) ^ (60 : Int).toNat by decide +kernel),
      .int c, rfl, c, rfl, _, _, rfl, rfl, ⟨by decide, by decide, by decide⟩, _, _, rfl, rfl, .inr ⟨_, rfl, ?_⟩⟩
    generalize decide ((10 : Int) ^ (18 : Int).toNat ≤ _) = bb
    have hpos : (0 : Int) ≤ (if c < 0 then -c else c) % ((10 : Int) ^ (60 : Int).toNat * (10 : Int) ^ (60 : Int).toNat * (10 : Int) ^ (60 : Int).toNat) := Int.emod_nonneg _ (by decide +kernel)
    refine ⟨_, _, rfl, rfl, .inr ?_, ?_⟩
    · cases bb <;> exact ⟨by decide, by decide⟩
    have hown : (0 : Int) ≤ (if c < 0 then -c else c) % ((10 : Int) ^ (60 : Int).toNat * (10 : Int) ^ (60 : Int).toNat * (10 : Int) ^ (60 : Int).toNat) * (if bb = true then 1 else 0) := Int.mul_nonneg hpos (by cases bb <;> decide)
    refine ⟨_, rfl, .int c, rfl, _, _, rfl, rfl, (show (0 : Int) < 2305843009213693951 by decide), .int k, rfl, _, _, rfl, rfl, .inl ⟨by decide, by decide⟩, _, _, rfl, rfl, _, _, rfl, rfl, (by show 3 ≤ sizeLine; decide), fun p np => ?_⟩
    have h1 : 0 ≤ c % 2305843009213693951 := Int.emod_nonneg _ (by decide)
    have h2 : c % 2305843009213693951 < 2305843009213693951 := Int.emod_lt_of_pos _ (by decide)
    exact fin _ _ hown (by omega) (by omega) p np
/-! ### take -/
theorem primes8 (n : Int) (h0 : 0 ≤ n) (h : n < 8) : ∃ v : Int, atI [V.int 2147483647, .int 2147483629, .int 2147483587, .int 2147483579, .int 2147483563, .int 2147483549, .int 2147483543, .int 2147483497] n = some (.int v) ∧ 0 < v ∧ v ≤ 2147483647 := by
  obtain ⟨m, rfl⟩ := Int.eq_ofNat_of_zero_le h0
  match m, h with
  | 0, _ => exact ⟨_, rfl, by decide, by decide⟩
  | 1, _ => exact ⟨_, rfl, by decide, by decide⟩
  | 2, _ => exact ⟨_, rfl, by decide, by decide⟩
  | 3, _ => exact ⟨_, rfl, by decide, by decide⟩
  | 4, _ => exact ⟨_, rfl, by decide, by decide⟩
  | 5, _ => exact ⟨_, rfl, by decide, by decide⟩
  | 6, _ => exact ⟨_, rfl, by decide, by decide⟩
  | 7, _ => exact ⟨_, rfl, by decide, by decide⟩
def spTake : Sp := fun vs H Q _ => ∃ (a : Addr) (n m : Nat), vs = [.ref a, .int n] ∧ 0 < n ∧ n < 2305843009213693952 ∧ Pot H a m ∧ m < 100000 ∧ ∀ (r : Nat) H', r < n → Keeps a H H' → Pot H' a (m + 1) → Q (.int r) H'
theorem ok_take (F : Fun K "_law_take" "_law_take" sTake f fd) : FnOk P w K mg base CX0 (k + 1) f fd ["_law_pot_here", "_law_upto"] spTake := by
  refine F.ok scTake (fun vs H Q E h => ?_) (fun cdv A outer s H vs Q E hr h => ?_)
  · obtain ⟨a, n, m, rfl, _⟩ := h
    rfl
  · obtain ⟨a, n, m, rfl, hn, hn2, ⟨x, y, z, hH, hx, hy, hy2, hz, hz2⟩, hm, q⟩ := h
    refine ⟨_, pss_cons (ps_if (pt_cmpR op_gt (pe_ix ix_list (pv 0) pe_int (fun _ _ => rfl)) pe_int (nomark _))
        (pss_cons (ps_set (i := 2) scTake.nd rfl (.inl rfl) (pe_op op_mod (pe_ix ix_list (pv 0) pe_int (fun _ _ => rfl)) (pv 1)))
        (pss_cons (ps_asg (pe_op op_fdivW (pe_ix ix_list (pv 0) pe_int (fun _ _ => rfl)) (pv 1)) (pg_sub (pv 0) pe_int set_list))
        (pss_one (ps_ret (pv 2))))) pss_nil)
      (pss_cons (ps_asg (pe_op op_add (pe_ix ix_list (pv 0) pe_int (fun _ _ => rfl)) pe_int) (pg_sub (pv 0) pe_int set_list))
      (pss_cons (ps_set (i := 3) scTake.nd rfl (.inl rfl) (pe_lst (pa_cons pe_int (pa_cons pe_int (pa_cons pe_int (pa_cons pe_int (pa_cons pe_int (pa_cons pe_int (pa_cons pe_int (pa_cons pe_int pa_nil))))))))))
      (pss_cons (ps_set (i := 4) scTake.nd rfl (.inl rfl) (pe_ix ix_list (pv 3) (pe_op op_mod (pe_ix ix_list (pv 0) pe_int (fun _ _ => rfl)) pe_int) (fun _ _ => rfl)))
      (pss_cons (ps_set (i := 5) scTake.nd rfl (.inl rfl) (pe_op op_add (pe_op op_mod (pe_op op_mod (pe_op op_add (pe_ix ix_list (pv 0) pe_int (fun _ _ => rfl)) (pe_op op_mul (pe_op op_mul pe_int (pe_ix ix_list (pv 0) pe_int (fun _ _ => rfl))) (pe_ix ix_list (pv 0) pe_int (fun _ _ => rfl)))) (pe_op op_pow (pv 4) pe_int)) (pv 4)) pe_int))
      (pss_one (ps_ret (pe_op op_mod (pe_op op_fdiv (pe_op op_mod (pe_op op_mul (pv 5) (pe_op op_add (pe_op op_mod (pv 5) pe_int) (pe_ix ix_list (pv 0) pe_int (fun _ _ => rfl)))) (pv 4)) pe_int) (pv 1)))))))), ?_⟩
    have hL : SqL K H a [.int x, .int y, .int z] := .inl (.inl hH)
    have hnI : (0 : Int) < (n : Int) := by omega
    refine ⟨.ref a, rfl, a, _, _, .int x, rfl, rfl, hL, rfl, _, _, rfl, rfl, _, rfl, ite2 (fun e => ?_) (fun e => ?_)⟩
    · obtain ⟨r, er, hr2⟩ := nat_of (n := n) (Int.emod_nonneg x (Int.ne_of_gt hnI)) (Int.emod_lt_of_pos x hnI)
      refine ⟨.ref a, rfl, a, _, _, .int x, rfl, rfl, hL, rfl, .int n, rfl, _, _, rfl, rfl, hnI, ?_⟩
      refine ⟨.ref a, rfl, a, _, _, .int x, rfl, rfl, hL, rfl, .int n, rfl, _, _, rfl, rfl, wide_div (b := 61) hnI (by show (n : Int).natAbs < 2305843009213693952; omega) (by decide) (by decide), .ref a, rfl, a, _, _, 0, rfl, rfl, hH, rfl, .int (x % n), rfl, ?_⟩
      rw [er]
      exact q r _ hr2 (Keeps.refl a H).at ⟨x / n, y, z, upd_same, Int.ediv_nonneg hx (Int.le_of_lt hnI), hy, hy2, hz, by omega⟩
    · refine ⟨.ref a, rfl, a, _, _, .int z, rfl, rfl, hL, rfl, _, _, rfl, rfl, .ref a, rfl, a, _, _, 2, rfl, rfl, hH, rfl, (by show 8 ≤ sizeLine; decide), fun p np => ?_⟩
      obtain ⟨v, hv, hv0, hv1⟩ := primes8 ((z + 1) % 8) (Int.emod_nonneg _ (by decide)) (Int.emod_lt_of_pos _ (by decide))
      have hap : a ≠ p := fun e => by
        rw [← e, upd_same] at np
        cases np
      have hL2 : SqL K (upd (upd H a (.lst [.int x, .int y, .int (z + 1)])) p (.lst [V.int 2147483647, .int 2147483629, .int 2147483587, .int 2147483579, .int 2147483563, .int 2147483549, .int 2147483543, .int 2147483497])) a [.int x, .int y, .int (z + 1)] := .inl (.inl (by rw [upd_ne hap, upd_same]))
      refine ⟨.ref p, rfl, .ref a, rfl, a, _, _, .int (z + 1), rfl, rfl, hL2, rfl, _, _, rfl, rfl, (show (0 : Int) < 8 by decide), p, _, _, .int v, rfl, rfl, .inl (.inl upd_same), hv, ?_⟩
      have hv2 : (0 : Int) < v ^ (2 : Int).toNat := by
        show (0 : Int) < v ^ 2
        exact Int.pow_pos hv0
      refine ⟨.ref a, rfl, a, _, _, .int y, rfl, rfl, hL2, rfl, .ref a, rfl, a, _, _, .int (z + 1), rfl, rfl, hL2, rfl, _, _, rfl, rfl, .inl ⟨by decide, by decide⟩, .ref a, rfl, a, _, _, .int (z + 1), rfl, rfl, hL2, rfl, _, _, rfl, rfl, .inr ⟨by omega, by omega⟩, _, _, rfl, rfl,
        .int v, rfl, _, _, rfl, rfl, ⟨by decide, by decide, by omega⟩, _, _, rfl, rfl, hv2, .int v, rfl, _, _, rfl, rfl, hv0, _, _, rfl, rfl, ?_⟩
      generalize eg : (y + 69621 * (z + 1) * (z + 1)) % v ^ (2 : Int).toNat % v + 1 = mx
      have m0 : 0 ≤ mx := by
        have := Int.emod_nonneg ((y + 69621 * (z + 1) * (z + 1)) % v ^ (2 : Int).toNat) (Int.ne_of_gt hv0)
        omega
      have m1 : mx < 2147483649 := by
        have := Int.emod_lt_of_pos ((y + 69621 * (z + 1) * (z + 1)) % v ^ (2 : Int).toNat) hv0
        omega
      refine ⟨_, rfl, _, rfl, _, _, rfl, rfl, (show (0 : Int) < 1009 by decide), .ref a, rfl, a, _, _, .int (z + 1), rfl, rfl, hL2, rfl, _, _, rfl, rfl, _, _, rfl, rfl, .inl ⟨by omega, by omega⟩, .int v, rfl, _, _, rfl, rfl, hv0, _, _, rfl, rfl, ⟨by decide, by decide⟩, .int n, rfl, _, _, rfl, rfl, hnI, ?_⟩
      generalize (_ : Int) / 7 = g
      obtain ⟨r, er, hr2⟩ := nat_of (n := n) (Int.emod_nonneg g (Int.ne_of_gt hnI)) (Int.emod_lt_of_pos g hnI)
      show Q (.int (g % n)) _
      rw [er]
      refine q r _ hr2 ((Keeps.refl a H).at.new np) ⟨x, y, z + 1, by rw [upd_ne hap, upd_same]; rfl, hx, hy, hy2, by omega, by omega⟩
end

section
variable {P : Program} {w : World} {K : PySem.W.Frag} {mg : Str → Option Value} {base : Heap} {f : Addr} {fd : FuncData} {k : Nat} {T : List (Addr × Str)}
theorem ad_take (F : FnOk P w K mg base CX0 k f fd ["_law_pot_here", "_law_upto"] spTake) : FnOk P w K mg base CX0 k f fd ["_law_pot_here", "_law_upto"] (spP1 K T takeW) := F.imp fun vs H Q E h => by
  obtain ⟨q, n, a, v, f1, rfl, ⟨i1, j1⟩, tb, pp, P0, ⟨⟨h1, h2, h3⟩, hd⟩, hq⟩ := h
  cases i1
  exact ⟨q, a, n, rfl, h1, h2, pp, h3, fun r H' lr kk p' => hq r (n + 1) _ H' [] (hd r lr) (af_keeps pp kk p') (.int _) List.nodup_nil fun b hb => absurd hb List.not_mem_nil⟩
theorem urn_pot {Bs : Addr → HO → Prop} {ρ : List Sl} {φ : Nat → List Addr} {σ : L2.St} {H : Hp} {n : Nat} {ns : List Int} {kk i2 : Nat} {Q : VK} (st : ST K T Bs none ρ φ σ H n) (hi : ρ[0]? = some (.scr ns)) (hk : ρ[i2]? = some (.own (enc kk))) (c : ns.length ≤ 63 ∧ kk ≤ 100)
    (q : ∀ a H', Same H H' → H a = none → Pot H' a 0 → Q (.ref a) H') : tCall (spPot K) [] E0 (tCons (tVar 0) (tCons (tVar i2) tNil)) σ H Q := by
  obtain ⟨a, h1, h2⟩ := scr_sql st hi
  obtain ⟨v, e1, e2, _⟩ := st.sl i2 _ hk
  generalize φ i2 = fp at e2
  cases e2
  exact ⟨_, h1, _, e1, a, ns, kk, rfl, h2, c.1, c.2, fun H' p s np pt => q p H' s np pt⟩
end
theorem scHas : FnScope ["hand", "k"] ["hand", "k"] (defScope sHas) := ⟨rfl, rfl, rfl, by decide +kernel, rfl, by decide +kernel, by decide +kernel⟩
theorem scBits : FnScope ["hand", "k"] ["hand"] (defScope sBits) := ⟨rfl, rfl, rfl, by decide +kernel, rfl, by decide +kernel, by decide +kernel⟩
section
variable {P : Program} {w : World} {K : PySem.W.Frag} {mg : Str → Option Value} {base : Heap} {f fH fA fB fR : Addr} {fd fdH fdA fdB fdR : FuncData} {k : Nat}
def spHas : Sp := fun vs H Q _ => ∃ h k : Nat, vs = [.int h, .int k] ∧ Q (.bl (h.testBit k)) H
theorem ok_has (F : Fun K "has_bit" "has_bit" sHas f fd) : FnOk P w K mg base CX0 (k + 1) f fd ["hand", "k"] spHas := by
  refine F.ok scHas (fun vs H Q E h => ?_) (fun cdv A outer s H vs Q E hr h => ?_)
  · obtain ⟨a, n, rfl, _⟩ := h
    rfl
  · obtain ⟨h, k, rfl, q⟩ := h
    refine ⟨_, pss_one (ps_ret (pe_cmpR op_eq (pe_op op_odd (pe_op op_shrNN (pv 0) (pv 1)) pe_int) pe_int (nomark _))), ?_⟩
    refine ⟨.int h, rfl, .int k, rfl, h, k, rfl, rfl, h / 2 ^ k, rfl, rfl, rfl, ?_⟩
    have e : decide (V.int ((h / 2 ^ k % 2 : Nat) : Int) = V.int 1) = h.testBit k := by
      rw [Nat.testBit_eq_decide_div_mod_eq, dec_int]
      by_cases z : h / 2 ^ k % 2 = 1
      · rw [decide_eq_true z, z]; rfl
      · rw [decide_eq_false z]
        exact beq_eq_false_iff_ne.mpr (by omega)
    show Q (.bl (decide (V.int ((h / 2 ^ k % 2 : Nat) : Int) = V.int 1))) H
    rw [e]
    exact q
/-! ### bits -/
def spBits (K : PySem.W.Frag) : Sp := fun vs H Q _ => ∃ h : Nat, vs = [.int h] ∧ h < 2 ^ 60 ∧ ∀ H' p, Same H H' → H p = none → H' p = some (.tup (nv (bl 60 h))) → Q (.ref p) H'
theorem ok_bits (F : Fun K "bits" "bits" sBits f fd) (GH : FnOk P w K mg base CX0 1 fH fdH ["hand", "k"] spHas) (kH : PySem.W.keepIn K (.ref fH) = true) (bH : Binds K fdH ["hand", "k"] []) (gH : mg "has_bit" = some (.ref fH)) (mt : mg "tuple" = none) (mr : mg "range" = none) :
    FnOk P w K mg base CX0 2 f fd ["hand"] (spBits K) := by
  refine F.ok scBits (fun vs H Q E h => ?_) (fun cdv A outer s H vs Q E hr h => ?_)
  · obtain ⟨a, rfl, _⟩ := h
    rfl
  · obtain ⟨h, rfl, h60, q⟩ := h
    refine ⟨_, pss_one (ps_ret (pe_callTy call_tuple_of (by rfl) mt (by decide +kernel) (pa_cons (pe_lc (own := [("k", 1)]) (g := gName 1) (by rfl) scBits.nd (pi_range1 (by rfl) mr (pa_cons (pe_bits (pv 0)) pa_nil))
      (blkOk_by (own := [("k", 1)]) (N := ["hand", "k"]) (sc := defScope sBits) (by decide +kernel)) (fun _ _ _ _ _ => pg_name (i := 1) scBits.nd rfl (Or.inl rfl))
      (fun _ _ _ _ _ => pts_one (pt_val (pe_call GH hr (by rfl) gH kH bH .nil pass0 (pa_cons (pv 0) (pa_cons (pv 1) pa_nil))))) (fun _ _ _ _ _ => pv 1)) pa_nil))), ?_⟩
    have hn : Builtin.Int.intBits (h : Int) ≤ 60 := intBits_le60 h60
    have hb := intBits_nat (h := h)
    refine ⟨.int h, rfl, h, rfl, _, rfl, (by omega), (by omega), fun D nD => lc_range (lo := 0) (n := Builtin.Int.intBits (h : Int)) (fun i H' => Same H H' ∧ H' D = some (.lst (nv (bl i h)))) ⟨same_new (Same.refl H) nD, upd_same⟩ ?_ ?_⟩
    · rintro i H1 hi ⟨sm, eD⟩
      refine ⟨rfl, .int h, rfl, .int (0 + i), rfl, h, i, by rw [Int.zero_add]; rfl, _, rfl, ite2 (fun e => ?_) (fun e => ?_)⟩
      · refine ⟨_, rfl, _, eD, ?_, fun b o z => ?_, ?_⟩
        · rw [nv_len]
          exact Nat.lt_of_le_of_lt (Nat.le_trans (bl_len i h) (by omega : i ≤ 60)) (by decide)
        · have e1 := sm b o z
          rw [upd_ne (ne_of_none z nD)]
          exact e1
        · rw [upd_same, bl_succ, e, Int.zero_add]
          simp [nv]
      · refine ⟨sm, ?_⟩
        rw [eD, bl_succ]
        simp [e]
    · rintro H1 ⟨sm, eD⟩
      refine ⟨D, _, rfl, .inl ⟨.inl (.inl eD), fun p np => ?_⟩⟩
      refine q _ p (same_new sm np) (sm.free np) ?_
      rw [upd_same, bl_eq hb h60]
/-! ### arc -/
theorem scArc : FnScope ["q", "j", "k"] ["q", "j", "k"] (defScope sArc) := ⟨rfl, rfl, rfl, by decide +kernel, rfl, by decide +kernel, by decide +kernel⟩
theorem scRound : FnScope ["q", "hand", "j"] ["q", "hand", "j"] (defScope sRound) := ⟨rfl, rfl, rfl, by decide +kernel, rfl, by decide +kernel, by decide +kernel⟩
def spArc : Sp := fun vs H Q _ => ∃ q j k : Int, vs = [.int q, .int j, .int k] ∧ 0 < q ∧ Q (.int ((k - j) % q)) H
theorem ok_arc (F : Fun K "arc" "arc" sArc f fd) : FnOk P w K mg base CX0 (k + 1) f fd ["q", "j", "k"] spArc := by
  refine F.ok scArc (fun vs H Q E h => ?_) (fun cdv A outer s H vs Q E hr h => ?_)
  · obtain ⟨a, b, c, rfl, _⟩ := h
    rfl
  · obtain ⟨q, j, k, rfl, hq, h⟩ := h
    refine ⟨_, pss_one (ps_ret (pe_op op_mod (pe_op op_sub (pv 2) (pv 1)) (pv 0))), ?_⟩
    exact ⟨.int k, rfl, .int j, rfl, _, _, rfl, rfl, .int q, rfl, _, _, rfl, rfl, hq, h⟩
/-! ### round_bits -/
open LamX NdefX in
def spRound (K : PySem.W.Frag) (Pt : Addr) : Sp := fun vs H Q _ => ∃ q h j : Nat, vs = [.int q, .int h, .int j] ∧ 0 < q ∧ q ≤ 60 ∧ h < 2 ^ q ∧ Tabs [(Pt, lamNm)] H ∧ ∀ H' p, ExtN H H' → Tabs [(Pt, lamNm)] H' → H' p = some (.tup (nv (rb q h j))) → Q (.ref p) H'
theorem cast_pairs : ∀ {ns : List Int} {ks : List Nat}, ns.Perm (ks.map fun (n : Nat) => (n : Int)) → ∃ rs : List Nat, ns = rs.map (fun (n : Nat) => (n : Int)) ∧ rs.Perm ks := fun {ns ks} hp => by
  refine ⟨ns.map Int.toNat, ?_, ?_⟩
  · rw [List.map_map]
    refine ((List.map_id ns).symm.trans (List.map_congr_left fun x hx => ?_))
    obtain ⟨n, _, rfl⟩ := List.mem_map.mp (hp.mem_iff.mp hx)
    rfl
  · have h := hp.map Int.toNat
    rw [List.map_map] at h
    have e : ks.map (Int.toNat ∘ fun (n : Nat) => (n : Int)) = ks := (List.map_congr_left fun x _ => rfl).trans (List.map_id ks)
    rw [e] at h
    exact h
open LamX NdefX in
theorem ok_round {c Pt : Addr} (F : FunT K "round_bits" sRound f fd c) (TB : TabB base mg c Pt) (GA : FnOk P w K mg base CX0 1 fA fdA ["q", "j", "k"] spArc) (kA : PySem.W.keepIn K (.ref fA) = true) (bA : Binds K fdA ["q", "j", "k"] []) (gA : mg "arc" = some (.ref fA))
    (GB : FnOk P w K mg base CX0 2 fB fdB ["hand"] (spBits K)) (kB : PySem.W.keepIn K (.ref fB) = true) (bB : Binds K fdB ["hand"] []) (gB : mg "bits" = some (.ref fB)) (mt : mg "tuple" = none) (ms : mg "sorted" = none) :
    FnOk P w K mg base CX0 5 f fd ["q", "hand", "j"] (spRound K Pt) := by
  refine F.ok scRound (fun vs H Q E h => ?_) (fun A outer s H vs Q E hr h => ?_)
  · obtain ⟨a, b, c, rfl, _⟩ := h
    rfl
  · obtain ⟨q, h, j, rfl, hq, hq6, hh, hT, fin⟩ := h
    have h60 : h < 2 ^ 60 := Nat.lt_of_lt_of_le hh (Nat.pow_le_pow_right (by decide) hq6)
    refine ⟨_, pss_one (ps_ret (pe_callTy call_tuple_of (by rfl) mt (by decide +kernel) (pa_cons (pe_sortLam (T := [(Pt, lamNm)]) (x := "k") (fr := ["q", "j"]) (N := ["k", "q", "j"]) (js := [0, 2]) (k := 1)
      (pa_cons (pe_call GB (hr.mono (by decide)) (by rfl) gB kB bB .nil pass0 (pa_cons (pv 1) pa_nil)) pa_nil) (by rfl) ms TB rfl (List.mem_singleton.mpr rfl) (fun p hp _ => by rw [List.mem_singleton.mp hp]; rfl) rfl
      (nscope_by (by decide +kernel)) (ndef_free (sc := defScope sRound) (fr := ["q", "j"]) (by decide +kernel)) (fun ok => Caps.made ok (ndef_free (sc := defScope sRound) (fr := ["q", "j"]) (by decide +kernel)) (ndef_fr (fr := ["q", "j"]) (sc := defScope sRound) (by decide +kernel)) rfl) (fun _ _ _ _ _ _ => rfl) hr
      (fun f c' A outer z G hr2 => pe_call GA hr2 (by rfl) gA kA bA .nil pass0 (pa_cons (pv 1) (pa_cons (pv 2) (pa_cons (pv 0) pa_nil))))) pa_nil))), ?_⟩
    refine ⟨.int h, rfl, h, rfl, h60, fun H1 b s1 nb hb => ?_⟩
    have e0 : nv (bl 60 h) = ((bl 60 h).map fun (n : Nat) => (n : Int)).map V.int := by
      rw [List.map_map]
      rfl
    refine ⟨b, (bl 60 h).map fun (n : Nat) => (n : Int), fun n => (n - (j : Int)) % (q : Int), rfl, by rw [← e0]; exact .inl (.inl hb), hT.ext s1, fun n hn Q' hQ => ?_, fun H2 p ns' eN T2 np hp hs => ?_⟩
    · exact ⟨.int q, rfl, .int j, rfl, .int n, rfl, q, j, n, rfl, by omega, hQ⟩
    · obtain ⟨rs, rfl, hperm⟩ := cast_pairs hp
      have e1 : rs = rb q h j := rb_eq hq6 hh hperm (by rw [List.pairwise_map] at hs; exact hs)
      refine ⟨p, _, rfl, .inl ⟨.inl (.inl upd_same), fun l nl => ?_⟩⟩
      have x2 : ExtN H (upd H2 p (.lst ((rs.map fun (n : Nat) => (n : Int)).map V.int))) := ext_new ((ExtN.of s1).trans eN) np
      refine fin _ l (ext_new x2 nl) (tabs_new (tabs_new T2 np) nl) ?_
      rw [upd_same, List.map_map, e1]
      rfl
end
section
variable {P : Program} {w : World} {K : PySem.W.Frag} {mg : Str → Option Value} {base : Heap} {f : Addr} {fd : FuncData} {k : Nat}
theorem ad_round {Pt : Addr} (F : FnOk P w K mg base CX0 k f fd ["q", "hand", "j"] (spRound K Pt)) : FnOk P w K mg base CX0 k f fd ["q", "hand", "j"] (spW3 K [(Pt, lamNm)] rbdW) := F.imp fun vs H Q E h => by
  obtain ⟨q, h, j, v1, v2, v3, f1, f2, f3, rfl, ⟨i1, i2, i3⟩, tb, P0, ⟨⟨h1, h2, h3⟩, hp⟩, hq⟩ := h
  cases i1
  cases i2
  cases i3
  exact ⟨q, h, j, rfl, h1, h2, h3, tb, fun H' p x t e => hq (rb q h j) 0 _ H' [] hp ⟨Fr.ext x, fun _ => t, fun a e z => nomatch e⟩ (nv_im e) List.nodup_nil fun b hb => absurd hb List.not_mem_nil⟩
end

end Bf
namespace Bf
open PySem PySem.Spec PyProof.Rows L2 LamX NdefX
noncomputable section
variable {P : Program} {w : World} {K : PySem.W.Frag} {mg : Str → Option Value} {base : Heap} {f : Addr} {fd : FuncData} {k : Nat} {T : List (Addr × Str)}
theorem rk_tra_3_0123 {K : PySem.W.Frag} {T : List (Addr × Str)} {ρ : List Sl} {α1 α2 α3 α4 R : Type} [Enc α1] [Enc α2] [Enc α3] [Enc α4] [Enc R] {f : α1 → α2 → α3 → α4 → M R} {E : XK} {t1 : TE} {m1 : M α1} {b1 : Bool} (h1 : RE K T t1 ρ b1 m1) {t2 : TE} {m2 : M α2} {b2 : Bool} (h2 : RE K T t2 ρ b2 m2) {t3 : TE} {m3 : M α3} {b3 : Bool} (h3 : RE K T t3 ρ b3 m3) {t4 : TE} {m4 : M α4} {b4 : Bool} (h4 : RE K T t4 ρ b4 m4) : RE K T (tCallK (spW4 K T f) (gN 3 [0, 1, 2, 3]) E (tCons t1 (tCons t2 (tCons t3 tNil))) (tCons t4 tNil)) ρ true (c4W m1 m2 m3 m4 fun a1 a2 a3 a4 => pureW (f a1 a2 a3 a4)) := fun Bs po φ σ H n st P p Q q =>
  h1 Bs po φ σ H n st _ p _ fun a1 n1 v1 H1 f1 p1 x1 i1 g1 =>
  h2 Bs po φ σ H1 n1 (st.af x1) _ p1 _ fun a2 n2 v2 H2 f2 p2 x2 i2 g2 =>
  h3 Bs po φ σ H2 n2 ((st.af x1).af x2) _ p2 _ fun a3 n3 v3 H3 f3 p3 x3 i3 g3 =>
  h4 Bs po φ σ H3 n3 (((st.af x1).af x2).af x3) _ p3 _ fun a4 n4 v4 H4 f4 p4 x4 i4 g4 =>
  ⟨_, _, _, _, _, _, _, _, _, _, _, _, rfl, ⟨(((i1.af g1.1 x2.fr).af g1.1 x3.fr).af g1.1 x4.fr), ((i2.af g2.1 x3.fr).af g2.1 x4.fr), (i3.af g3.1 x4.fr), i4⟩, ((((st.af x1).af x2).af x3).af x4).tabs, _, p4, fun r c v' H' fp pr af im nd hf => q r n4 v' H' fp pr (Af.trans (Af.trans (Af.trans (Af.trans x1 x2) x3) x4) ⟨Fr.weak af.fr, af.tabs, fun a e z => keep_pot af z⟩) im (Fp.back (Af.trans (Af.trans (Af.trans x1 x2) x3) x4).fr ⟨fun b hb => ((((st.af x1).af x2).af x3).af x4).fresh_pot (hf b hb), fun _ => ⟨nd, hf⟩⟩)⟩
theorem rk_tol_4_01234 {K : PySem.W.Frag} {T : List (Addr × Str)} {ρ : List Sl} {α1 α2 α3 α4 α5 R : Type} [Enc α1] [Enc α2] [Enc α3] [Enc α4] [Enc α5] [Enc R] {f : α1 → α2 → α3 → α4 → α5 → M R} {E : XK} {t1 : TE} {m1 : M α1} {b1 : Bool} (h1 : RE K T t1 ρ b1 m1) {t2 : TE} {m2 : M α2} {b2 : Bool} (h2 : RE K T t2 ρ b2 m2) {t3 : TE} {m3 : M α3} {b3 : Bool} (h3 : RE K T t3 ρ b3 m3) {t4 : TE} {m4 : M α4} {b4 : Bool} (h4 : RE K T t4 ρ b4 m4) {t5 : TE} {m5 : M α5} {b5 : Bool} (h5 : RE K T t5 ρ b5 m5) : RE K T (tCallK (spW5 K T f) (gN 4 [0, 1, 2, 3, 4]) E (tCons t1 (tCons t2 (tCons t3 (tCons t4 tNil)))) (tCons t5 tNil)) ρ true (c5W m1 m2 m3 m4 m5 fun a1 a2 a3 a4 a5 => pureW (f a1 a2 a3 a4 a5)) := fun Bs po φ σ H n st P p Q q =>
  h1 Bs po φ σ H n st _ p _ fun a1 n1 v1 H1 f1 p1 x1 i1 g1 =>
  h2 Bs po φ σ H1 n1 (st.af x1) _ p1 _ fun a2 n2 v2 H2 f2 p2 x2 i2 g2 =>
  h3 Bs po φ σ H2 n2 ((st.af x1).af x2) _ p2 _ fun a3 n3 v3 H3 f3 p3 x3 i3 g3 =>
  h4 Bs po φ σ H3 n3 (((st.af x1).af x2).af x3) _ p3 _ fun a4 n4 v4 H4 f4 p4 x4 i4 g4 =>
  h5 Bs po φ σ H4 n4 ((((st.af x1).af x2).af x3).af x4) _ p4 _ fun a5 n5 v5 H5 f5 p5 x5 i5 g5 =>
  ⟨_, _, _, _, _, _, _, _, _, _, _, _, _, _, _, rfl, ⟨((((i1.af g1.1 x2.fr).af g1.1 x3.fr).af g1.1 x4.fr).af g1.1 x5.fr), (((i2.af g2.1 x3.fr).af g2.1 x4.fr).af g2.1 x5.fr), ((i3.af g3.1 x4.fr).af g3.1 x5.fr), (i4.af g4.1 x5.fr), i5⟩, (((((st.af x1).af x2).af x3).af x4).af x5).tabs, _, p5, fun r c v' H' fp pr af im nd hf => q r n5 v' H' fp pr (Af.trans (Af.trans (Af.trans (Af.trans (Af.trans x1 x2) x3) x4) x5) ⟨Fr.weak af.fr, af.tabs, fun a e z => keep_pot af z⟩) im (Fp.back (Af.trans (Af.trans (Af.trans (Af.trans x1 x2) x3) x4) x5).fr ⟨fun b hb => (((((st.af x1).af x2).af x3).af x4).af x5).fresh_pot (hf b hb), fun _ => ⟨nd, hf⟩⟩)⟩
theorem rk_pla_2_012 {K : PySem.W.Frag} {T : List (Addr × Str)} {ρ : List Sl} {α1 α2 α3 R : Type} [Enc α1] [Enc α2] [Enc α3] [Enc R] {f : α1 → α2 → α3 → M R} {E : XK} {t1 : TE} {m1 : M α1} {b1 : Bool} (h1 : RE K T t1 ρ b1 m1) {t2 : TE} {m2 : M α2} {b2 : Bool} (h2 : RE K T t2 ρ b2 m2) {t3 : TE} {m3 : M α3} {b3 : Bool} (h3 : RE K T t3 ρ b3 m3) : RE K T (tCallK (spW3 K T f) (gN 2 [0, 1, 2]) E (tCons t1 (tCons t2 tNil)) (tCons t3 tNil)) ρ true (c3W m1 m2 m3 fun a1 a2 a3 => pureW (f a1 a2 a3)) := fun Bs po φ σ H n st P p Q q =>
  h1 Bs po φ σ H n st _ p _ fun a1 n1 v1 H1 f1 p1 x1 i1 g1 =>
  h2 Bs po φ σ H1 n1 (st.af x1) _ p1 _ fun a2 n2 v2 H2 f2 p2 x2 i2 g2 =>
  h3 Bs po φ σ H2 n2 ((st.af x1).af x2) _ p2 _ fun a3 n3 v3 H3 f3 p3 x3 i3 g3 =>
  ⟨_, _, _, _, _, _, _, _, _, rfl, ⟨((i1.af g1.1 x2.fr).af g1.1 x3.fr), (i2.af g2.1 x3.fr), i3⟩, (((st.af x1).af x2).af x3).tabs, _, p3, fun r c v' H' fp pr af im nd hf => q r n3 v' H' fp pr (Af.trans (Af.trans (Af.trans x1 x2) x3) ⟨Fr.weak af.fr, af.tabs, fun a e z => keep_pot af z⟩) im (Fp.back (Af.trans (Af.trans x1 x2) x3).fr ⟨fun b hb => (((st.af x1).af x2).af x3).fresh_pot (hf b hb), fun _ => ⟨nd, hf⟩⟩)⟩
theorem rk_pla_0_210 {K : PySem.W.Frag} {T : List (Addr × Str)} {ρ : List Sl} {α1 α2 α3 R : Type} [Enc α1] [Enc α2] [Enc α3] [Enc R] {f : α1 → α2 → α3 → M R} {E : XK} {t1 : TE} {m1 : M α3} {b1 : Bool} (h1 : RE K T t1 ρ b1 m1) {t2 : TE} {m2 : M α2} {b2 : Bool} (h2 : RE K T t2 ρ b2 m2) {t3 : TE} {m3 : M α1} {b3 : Bool} (h3 : RE K T t3 ρ b3 m3) : RE K T (tCallK (spW3 K T f) (gN 0 [2, 1, 0]) E tNil (tCons t1 (tCons t2 (tCons t3 tNil)))) ρ true (c3W m1 m2 m3 fun a1 a2 a3 => pureW (f a3 a2 a1)) := fun Bs po φ σ H n st P p Q q =>
  h1 Bs po φ σ H n st _ p _ fun a1 n1 v1 H1 f1 p1 x1 i1 g1 =>
  h2 Bs po φ σ H1 n1 (st.af x1) _ p1 _ fun a2 n2 v2 H2 f2 p2 x2 i2 g2 =>
  h3 Bs po φ σ H2 n2 ((st.af x1).af x2) _ p2 _ fun a3 n3 v3 H3 f3 p3 x3 i3 g3 =>
  ⟨_, _, _, _, _, _, _, _, _, rfl, ⟨i3, (i2.af g2.1 x3.fr), ((i1.af g1.1 x2.fr).af g1.1 x3.fr)⟩, (((st.af x1).af x2).af x3).tabs, _, p3, fun r c v' H' fp pr af im nd hf => q r n3 v' H' fp pr (Af.trans (Af.trans (Af.trans x1 x2) x3) ⟨Fr.weak af.fr, af.tabs, fun a e z => keep_pot af z⟩) im (Fp.back (Af.trans (Af.trans x1 x2) x3).fr ⟨fun b hb => (((st.af x1).af x2).af x3).fresh_pot (hf b hb), fun _ => ⟨nd, hf⟩⟩)⟩
theorem rk_pla_0_10d {K : PySem.W.Frag} {T : List (Addr × Str)} {ρ : List Sl} {α1 α2 R : Type} [Enc α1] [Enc α2] [Enc R] {f : α1 → α2 → Nat → M R} {E : XK} {t1 : TE} {m1 : M α2} {b1 : Bool} (h1 : RE K T t1 ρ b1 m1) {t2 : TE} {m2 : M α1} {b2 : Bool} (h2 : RE K T t2 ρ b2 m2) : RE K T (tCallK (spW3 K T f) (gD 0 [1, 0] (V.int 0)) E tNil (tCons t1 (tCons t2 tNil))) ρ true (c2W m1 m2 fun a1 a2 => pureW (f a2 a1 0)) := fun Bs po φ σ H n st P p Q q =>
  h1 Bs po φ σ H n st _ p _ fun a1 n1 v1 H1 f1 p1 x1 i1 g1 =>
  h2 Bs po φ σ H1 n1 (st.af x1) _ p1 _ fun a2 n2 v2 H2 f2 p2 x2 i2 g2 =>
  ⟨_, _, (0 : Nat), _, _, V.int 0, _, _, [], rfl, ⟨i2, (i1.af g1.1 x2.fr), Im.int _⟩, ((st.af x1).af x2).tabs, _, p2, fun r c v' H' fp pr af im nd hf => q r n2 v' H' fp pr (Af.trans (Af.trans x1 x2) ⟨Fr.weak af.fr, af.tabs, fun a e z => keep_pot af z⟩) im (Fp.back (Af.trans x1 x2).fr ⟨fun b hb => ((st.af x1).af x2).fresh_pot (hf b hb), fun _ => ⟨nd, hf⟩⟩)⟩
theorem rk_jud_0_3210 {K : PySem.W.Frag} {T : List (Addr × Str)} {ρ : List Sl} {α1 α2 α3 α4 R : Type} [Enc α1] [Enc α2] [Enc α3] [Enc α4] [Enc R] {f : α1 → α2 → α3 → α4 → M R} {E : XK} {t1 : TE} {m1 : M α4} {b1 : Bool} (h1 : RE K T t1 ρ b1 m1) {t2 : TE} {m2 : M α3} {b2 : Bool} (h2 : RE K T t2 ρ b2 m2) {t3 : TE} {m3 : M α2} {b3 : Bool} (h3 : RE K T t3 ρ b3 m3) {t4 : TE} {m4 : M α1} {b4 : Bool} (h4 : RE K T t4 ρ b4 m4) : RE K T (tCallK (spW4 K T f) (gN 0 [3, 2, 1, 0]) E tNil (tCons t1 (tCons t2 (tCons t3 (tCons t4 tNil))))) ρ true (c4W m1 m2 m3 m4 fun a1 a2 a3 a4 => pureW (f a4 a3 a2 a1)) := fun Bs po φ σ H n st P p Q q =>
  h1 Bs po φ σ H n st _ p _ fun a1 n1 v1 H1 f1 p1 x1 i1 g1 =>
  h2 Bs po φ σ H1 n1 (st.af x1) _ p1 _ fun a2 n2 v2 H2 f2 p2 x2 i2 g2 =>
  h3 Bs po φ σ H2 n2 ((st.af x1).af x2) _ p2 _ fun a3 n3 v3 H3 f3 p3 x3 i3 g3 =>
  h4 Bs po φ σ H3 n3 (((st.af x1).af x2).af x3) _ p3 _ fun a4 n4 v4 H4 f4 p4 x4 i4 g4 =>
  ⟨_, _, _, _, _, _, _, _, _, _, _, _, rfl, ⟨i4, (i3.af g3.1 x4.fr), ((i2.af g2.1 x3.fr).af g2.1 x4.fr), (((i1.af g1.1 x2.fr).af g1.1 x3.fr).af g1.1 x4.fr)⟩, ((((st.af x1).af x2).af x3).af x4).tabs, _, p4, fun r c v' H' fp pr af im nd hf => q r n4 v' H' fp pr (Af.trans (Af.trans (Af.trans (Af.trans x1 x2) x3) x4) ⟨Fr.weak af.fr, af.tabs, fun a e z => keep_pot af z⟩) im (Fp.back (Af.trans (Af.trans (Af.trans x1 x2) x3) x4).fr ⟨fun b hb => ((((st.af x1).af x2).af x3).af x4).fresh_pot (hf b hb), fun _ => ⟨nd, hf⟩⟩)⟩
theorem rk_jud_3_0123 {K : PySem.W.Frag} {T : List (Addr × Str)} {ρ : List Sl} {α1 α2 α3 α4 R : Type} [Enc α1] [Enc α2] [Enc α3] [Enc α4] [Enc R] {f : α1 → α2 → α3 → α4 → M R} {E : XK} {t1 : TE} {m1 : M α1} {b1 : Bool} (h1 : RE K T t1 ρ b1 m1) {t2 : TE} {m2 : M α2} {b2 : Bool} (h2 : RE K T t2 ρ b2 m2) {t3 : TE} {m3 : M α3} {b3 : Bool} (h3 : RE K T t3 ρ b3 m3) {t4 : TE} {m4 : M α4} {b4 : Bool} (h4 : RE K T t4 ρ b4 m4) : RE K T (tCallK (spW4 K T f) (gN 3 [0, 1, 2, 3]) E (tCons t1 (tCons t2 (tCons t3 tNil))) (tCons t4 tNil)) ρ true (c4W m1 m2 m3 m4 fun a1 a2 a3 a4 => pureW (f a1 a2 a3 a4)) := fun Bs po φ σ H n st P p Q q =>
  h1 Bs po φ σ H n st _ p _ fun a1 n1 v1 H1 f1 p1 x1 i1 g1 =>
  h2 Bs po φ σ H1 n1 (st.af x1) _ p1 _ fun a2 n2 v2 H2 f2 p2 x2 i2 g2 =>
  h3 Bs po φ σ H2 n2 ((st.af x1).af x2) _ p2 _ fun a3 n3 v3 H3 f3 p3 x3 i3 g3 =>
  h4 Bs po φ σ H3 n3 (((st.af x1).af x2).af x3) _ p3 _ fun a4 n4 v4 H4 f4 p4 x4 i4 g4 =>
  ⟨_, _, _, _, _, _, _, _, _, _, _, _, rfl, ⟨(((i1.af g1.1 x2.fr).af g1.1 x3.fr).af g1.1 x4.fr), ((i2.af g2.1 x3.fr).af g2.1 x4.fr), (i3.af g3.1 x4.fr), i4⟩, ((((st.af x1).af x2).af x3).af x4).tabs, _, p4, fun r c v' H' fp pr af im nd hf => q r n4 v' H' fp pr (Af.trans (Af.trans (Af.trans (Af.trans x1 x2) x3) x4) ⟨Fr.weak af.fr, af.tabs, fun a e z => keep_pot af z⟩) im (Fp.back (Af.trans (Af.trans (Af.trans x1 x2) x3) x4).fr ⟨fun b hb => ((((st.af x1).af x2).af x3).af x4).fresh_pot (hf b hb), fun _ => ⟨nd, hf⟩⟩)⟩
theorem rk_bou_0_10 {K : PySem.W.Frag} {T : List (Addr × Str)} {ρ : List Sl} {α1 α2 R : Type} [Enc α1] [Enc α2] [Enc R] {f : α1 → α2 → M R} {E : XK} {t1 : TE} {m1 : M α2} {b1 : Bool} (h1 : RE K T t1 ρ b1 m1) {t2 : TE} {m2 : M α1} {b2 : Bool} (h2 : RE K T t2 ρ b2 m2) : RE K T (tCallK (spW2 K T f) (gN 0 [1, 0]) E tNil (tCons t1 (tCons t2 tNil))) ρ true (c2W m1 m2 fun a1 a2 => pureW (f a2 a1)) := fun Bs po φ σ H n st P p Q q =>
  h1 Bs po φ σ H n st _ p _ fun a1 n1 v1 H1 f1 p1 x1 i1 g1 =>
  h2 Bs po φ σ H1 n1 (st.af x1) _ p1 _ fun a2 n2 v2 H2 f2 p2 x2 i2 g2 =>
  ⟨_, _, _, _, _, _, rfl, ⟨i2, (i1.af g1.1 x2.fr)⟩, ((st.af x1).af x2).tabs, _, p2, fun r c v' H' fp pr af im nd hf => q r n2 v' H' fp pr (Af.trans (Af.trans x1 x2) ⟨Fr.weak af.fr, af.tabs, fun a e z => keep_pot af z⟩) im (Fp.back (Af.trans x1 x2).fr ⟨fun b hb => ((st.af x1).af x2).fresh_pot (hf b hb), fun _ => ⟨nd, hf⟩⟩)⟩
/-! ### has_bit -/
def habB (hand : Nat) (k : Nat) : M (Ctl Bool Unit Unit) :=
  (bindW (b2W (b2W (b2W (retW (hand : Nat)) (retW (k : Nat)) (fun a b : Nat => retW (a / 2 ^ b))) (retW (1 : Nat)) (fun a b : Nat => retW (a &&& b))) (retW (1 : Nat)) (fun a b : Nat => retW (decide (a = b)))) fun r => retW (.ret r))
theorem habW_ex : ∃ g : Nat → Nat → M Bool, ∀ hand k, g hand k = outW (habB hand k) := ⟨fun hand k => outW (habB hand k), fun _ _ => rfl⟩
/-- sealed -/
def habW : Nat → Nat → M Bool := Classical.choose habW_ex
theorem habW_eq (hand : Nat) (k : Nat) : habW hand k = outW (habB hand k) := Classical.choose_spec habW_ex hand k
theorem habW_fn : habW = fun hand k => outW (habB hand k) := funext fun hand => funext fun k => habW_eq hand k
theorem scHab : FnScope ["hand", "k"] ["hand", "k"] (defScope sHab) := ⟨rfl, rfl, rfl, by decide +kernel, rfl, by decide +kernel, by decide +kernel⟩
theorem ok_hab (F : Fun K "has_bit" "has_bit" sHab f fd) (b : Bls mg) : FnOk P w K mg base CX0 1 f fd ["hand", "k"] (spW2 K T habW) := by
  refine F.ok scHab (fun vs H Q E h => ?_) (fun cdv A outer s H vs Q E hr h => ?_)
  · exact spW2_len h
  · refine ⟨_, (pss_cons (ps_ret (pe_cmpR op_eq (pe_op op_andN (pe_op op_shrNN (pv 0) (pv 1)) pe_int) pe_int (nomark _)))
      pss_nil), w2_run (N := ["hand", "k"]) psl_own psl_own (mB := habB) (ρ := fun (hand : Nat) (k : Nat) => [.own (enc (hand : Nat)), .own (enc (k : Nat))]) (ρn := fun _ => []) (ρb := fun _ => []) (C := fun _ => True) (fun _ _ => rfl) trivial (fun (hand : Nat) (k : Nat) => 
  (rb_ret (re_op ow_eqN (re_op ow_andN (re_op ow_shrN (re_v (i := 0) (a := (hand : Nat)) rfl) (re_v (i := 1) (a := (k : Nat)) rfl)) (re_nat 1)) (re_nat 1)))) (by rw [habW_fn] at h; exact h)⟩
/-! ### arc -/
def arqB (q : Nat) (j : Nat) (k : Nat) : M (Ctl Nat Unit Unit) :=
  (bindW (bindW (b2W (b2W (mapW (fun n : Nat => (n : Int)) (retW (k : Nat))) (mapW (fun n : Nat => (n : Int)) (retW (j : Nat))) (fun a b : Int => retW (a - b))) (mapW (fun n : Nat => (n : Int)) (retW (q : Nat))) (fun a b : Int => reqW (0 < b) (retW (a % b)))) fun z => reqW (0 ≤ z) (retW z.toNat)) fun r => retW (.ret r))
theorem arqW_ex : ∃ g : Nat → Nat → Nat → M Nat, ∀ q j k, g q j k = outW (arqB q j k) := ⟨fun q j k => outW (arqB q j k), fun _ _ _ => rfl⟩
/-- sealed -/
def arqW : Nat → Nat → Nat → M Nat := Classical.choose arqW_ex
theorem arqW_eq (q : Nat) (j : Nat) (k : Nat) : arqW q j k = outW (arqB q j k) := Classical.choose_spec arqW_ex q j k
theorem arqW_fn : arqW = fun q j k => outW (arqB q j k) := funext fun q => funext fun j => funext fun k => arqW_eq q j k
theorem scArq : FnScope ["q", "j", "k"] ["q", "j", "k"] (defScope sArq) := ⟨rfl, rfl, rfl, by decide +kernel, rfl, by decide +kernel, by decide +kernel⟩
theorem ok_arq (F : Fun K "arc" "arc" sArq f fd) (b : Bls mg) : FnOk P w K mg base CX0 1 f fd ["q", "j", "k"] (spW3 K T arqW) := by
  refine F.ok scArq (fun vs H Q E h => ?_) (fun cdv A outer s H vs Q E hr h => ?_)
  · exact spW3_len h
  · refine ⟨_, (pss_cons (ps_ret (pe_op op_mod (pe_op op_sub (pv 2) (pv 1)) (pv 0)))
      pss_nil), w3_run (N := ["q", "j", "k"]) psl_own psl_own psl_own (mB := arqB) (ρ := fun (q : Nat) (j : Nat) (k : Nat) => [.own (enc (q : Nat)), .own (enc (j : Nat)), .own (enc (k : Nat))]) (ρn := fun _ => []) (ρb := fun _ => []) (C := fun _ => True) (fun _ _ _ => rfl) trivial (fun (q : Nat) (j : Nat) (k : Nat) => 
  (rb_ret (re_toN (re_op ow_mod (re_op ow_sub (re_ofN (re_v (i := 2) (a := (k : Nat)) rfl)) (re_ofN (re_v (i := 1) (a := (j : Nat)) rfl))) (re_ofN (re_v (i := 0) (a := (q : Nat)) rfl)))))) (by rw [arqW_fn] at h; exact h)⟩
/-! ### next_bit -/
def nxbB (q : Nat) (hand : Nat) (k : Nat) : M (Ctl (Option Nat) Unit Unit) :=
  (bindW (b2W (retW (hand : Nat)) (retW (0 : Nat)) (fun a b : Nat => retW (decide (a = b)))) fun B_ => seqW (if B_ = true then (bindW (retW (none : (Option Nat))) fun r => retW (.ret r)) else (retW (.nxt (() : Unit)))) fun (s_1 : Unit) =>
  (bindW (mapW some (b2W (c3W (retW (q : Nat)) (retW (hand : Nat)) (b2W (retW (k : Nat)) (retW (1 : Nat)) (fun a b : Nat => retW (a + b))) fun A_1 A_2 A_3 => pureW (rbdW A_1 A_2 A_3)) (retW (0 : Nat)) fun (xs : (List Nat)) (i : Nat) n P => ∃ a, xs[i]? = some a ∧ P a n)) fun r => retW (.ret r)))
theorem nxbW_ex : ∃ g : Nat → Nat → Nat → M (Option Nat), ∀ q hand k, g q hand k = outW (nxbB q hand k) := ⟨fun q hand k => outW (nxbB q hand k), fun _ _ _ => rfl⟩
/-- sealed -/
def nxbW : Nat → Nat → Nat → M (Option Nat) := Classical.choose nxbW_ex
theorem nxbW_eq (q : Nat) (hand : Nat) (k : Nat) : nxbW q hand k = outW (nxbB q hand k) := Classical.choose_spec nxbW_ex q hand k
theorem nxbW_fn : nxbW = fun q hand k => outW (nxbB q hand k) := funext fun q => funext fun hand => funext fun k => nxbW_eq q hand k
theorem scNxb : FnScope ["q", "hand", "k"] ["q", "hand", "k"] (defScope sNxb) := ⟨rfl, rfl, rfl, by decide +kernel, rfl, by decide +kernel, by decide +kernel⟩
theorem ok_nxb {f_rbd : Addr} {d_rbd : FuncData} (F : Fun K "next_bit" "next_bit" sNxb f fd) (b : Bls mg) (c_rbd : CalF P w K mg base 5 "round_bits" f_rbd d_rbd ["q", "hand", "j"] (spW3 K T rbdW)) : FnOk P w K mg base CX0 6 f fd ["q", "hand", "k"] (spW3 K T nxbW) := by
  refine F.ok scNxb (fun vs H Q E h => ?_) (fun cdv A outer s H vs Q E hr h => ?_)
  · exact spW3_len h
  · refine ⟨_, (pss_cons (ps_if (pt_cmpR op_eq (pv 1) pe_int (nomark _)) (pss_cons (ps_ret pe_non)
      pss_nil) pss_nil)
      (pss_cons (ps_ret (pe_ix ix_tup (pe_call c_rbd.G (hr.mono (by decide)) (by rfl) c_rbd.g c_rbd.kp c_rbd.b .nil pass0 (pa_cons (pv 0) (pa_cons (pv 1) (pa_cons (pe_op op_addN (pv 2) pe_int) pa_nil)))) pe_int (fun _ _ => rfl)))
      pss_nil)), w3_run (N := ["q", "hand", "k"]) psl_own psl_own psl_own (mB := nxbB) (ρ := fun (q : Nat) (hand : Nat) (k : Nat) => [.own (enc (q : Nat)), .own (enc (hand : Nat)), .own (enc (k : Nat))]) (ρn := fun _ => []) (ρb := fun _ => []) (C := fun _ => True) (fun _ _ _ => rfl) trivial (fun (q : Nat) (hand : Nat) (k : Nat) => 
  (rb_if (ρ1 := fun (s_1 : Unit) => [.own (enc (q : Nat)), .own (enc (hand : Nat)), .own (enc (k : Nat))]) (rt_test (re_op ow_eqN (re_v (i := 1) (a := (hand : Nat)) rfl) (re_nat 0)))
  (rb_ret (re_none (α := Nat)))
  (rb_end (s := (() : Unit)) ⟨.eq _, ⟨.eq _, ⟨.eq _, trivial⟩⟩⟩) (fun (s_1 : Unit) =>
  (rb_ret (re_some (re_op ow_ixTN (re_call3 (re_v (i := 0) (a := (q : Nat)) rfl) (re_v (i := 1) (a := (hand : Nat)) rfl) (re_op ow_addN (re_v (i := 2) (a := (k : Nat)) rfl) (re_nat 1))) (re_nat 0))))))) (by rw [nxbW_fn] at h; exact h)⟩
/-! ### across -/
def acrB (hand : Nat) (k : Nat) : M (Ctl Nat Unit Unit) :=
  (bindW (b2W (retW (hand : Nat)) (b2W (retW (1 : Nat)) (retW (k : Nat)) (fun a b : Nat => reqW (a = 1 ∧ b ≤ 134217727) (retW (2 ^ b)))) (fun a b : Nat => retW (a ^^^ b))) fun r => retW (.ret r))
theorem acrW_ex : ∃ g : Nat → Nat → M Nat, ∀ hand k, g hand k = outW (acrB hand k) := ⟨fun hand k => outW (acrB hand k), fun _ _ => rfl⟩
/-- sealed -/
def acrW : Nat → Nat → M Nat := Classical.choose acrW_ex
theorem acrW_eq (hand : Nat) (k : Nat) : acrW hand k = outW (acrB hand k) := Classical.choose_spec acrW_ex hand k
theorem acrW_fn : acrW = fun hand k => outW (acrB hand k) := funext fun hand => funext fun k => acrW_eq hand k
theorem scAcr : FnScope ["hand", "k"] ["hand", "k"] (defScope sAcr) := ⟨rfl, rfl, rfl, by decide +kernel, rfl, by decide +kernel, by decide +kernel⟩
theorem ok_acr (F : Fun K "across" "across" sAcr f fd) (b : Bls mg) : FnOk P w K mg base CX0 1 f fd ["hand", "k"] (spW2 K T acrW) := by
  refine F.ok scAcr (fun vs H Q E h => ?_) (fun cdv A outer s H vs Q E hr h => ?_)
  · exact spW2_len h
  · refine ⟨_, (pss_cons (ps_ret (pe_op op_xorN (pv 0) (pe_op op_bit pe_int (pv 1))))
      pss_nil), w2_run (N := ["hand", "k"]) psl_own psl_own (mB := acrB) (ρ := fun (hand : Nat) (k : Nat) => [.own (enc (hand : Nat)), .own (enc (k : Nat))]) (ρn := fun _ => []) (ρb := fun _ => []) (C := fun _ => True) (fun _ _ => rfl) trivial (fun (hand : Nat) (k : Nat) => 
  (rb_ret (re_op ow_xorN (re_v (i := 0) (a := (hand : Nat)) rfl) (re_op ow_bit (re_nat 1) (re_v (i := 1) (a := (k : Nat)) rfl))))) (by rw [acrW_fn] at h; exact h)⟩
/-! ### tree_at -/
def traB (q : Nat) (hand : Nat) (t : Nat) (source : Nat) : M (Ctl Nat Unit Unit) :=
  (bindW (b2W (retW (t : Nat)) (retW (q : Nat)) (fun a b : Nat => reqW (0 < b) (retW (a % b)))) fun (k_1 : Nat) =>
  (bindW (b2W (retW (hand : Nat)) (retW (source : Nat)) (fun a b : Nat => retW (a ^^^ b))) fun (apart_2 : Nat) =>
  (bindW (c2W (retW (apart_2 : Nat)) (retW (k_1 : Nat)) fun A_1 A_2 => pureW (habW A_1 A_2)) fun B_ => seqW (if B_ = true then (bindW (getW (c3W (retW (q : Nat)) (retW (apart_2 : Nat)) (retW (k_1 : Nat)) fun A_1 A_2 A_3 => pureW (nxbW A_1 A_2 A_3))) fun r => retW (.ret r)) else (retW (.nxt (() : Unit)))) fun (s_3 : Unit) =>
  (bindW (retW (k_1 : Nat)) fun r => retW (.ret r)))))
theorem traW_ex : ∃ g : Nat → Nat → Nat → Nat → M Nat, ∀ q hand t source, g q hand t source = outW (traB q hand t source) := ⟨fun q hand t source => outW (traB q hand t source), fun _ _ _ _ => rfl⟩
/-- sealed -/
def traW : Nat → Nat → Nat → Nat → M Nat := Classical.choose traW_ex
theorem traW_eq (q : Nat) (hand : Nat) (t : Nat) (source : Nat) : traW q hand t source = outW (traB q hand t source) := Classical.choose_spec traW_ex q hand t source
theorem traW_fn : traW = fun q hand t source => outW (traB q hand t source) := funext fun q => funext fun hand => funext fun t => funext fun source => traW_eq q hand t source
theorem scTra : FnScope ["q", "hand", "t", "source", "k", "apart"] ["q", "hand", "t", "source"] (defScope sTra) := ⟨rfl, rfl, rfl, by decide +kernel, rfl, by decide +kernel, by decide +kernel⟩
theorem ok_tra {f_hab f_nxb : Addr} {d_hab d_nxb : FuncData} (F : FunS K "tree_at" sTra f fd) (b : Bls mg) (c_hab : CalF P w K mg base 1 "has_bit" f_hab d_hab ["hand", "k"] (spW2 K T habW)) (c_nxb : CalF P w K mg base 6 "next_bit" f_nxb d_nxb ["q", "hand", "k"] (spW3 K T nxbW)) : FnOk P w K mg base CX0 7 f fd ["q", "hand", "t", "source"] (spW4 K T traW) := by
  refine F.go scTra (fun vs H Q E h => ?_) (fun cdv A outer s H vs Q E hr h => ?_)
  · exact spW4_len h
  · refine ⟨_, (pss_cons (ps_set (i := 4) scTra.nd rfl (.inl rfl) (pe_op op_modNN (pv 2) (pv 0)))
      (pss_cons (ps_set (i := 5) scTra.nd rfl (.inl rfl) (pe_op op_xorN (pv 1) (pv 3)))
      (pss_cons (ps_if (pt_val (pe_call c_hab.G (hr.mono (by decide)) (by rfl) c_hab.g c_hab.kp c_hab.b .nil pass0 (pa_cons (pv 5) (pa_cons (pv 4) pa_nil)))) (pss_cons (ps_ret (pe_call c_nxb.G (hr.mono (by decide)) (by rfl) c_nxb.g c_nxb.kp c_nxb.b .nil pass0 (pa_cons (pv 0) (pa_cons (pv 5) (pa_cons (pv 4) pa_nil)))))
      pss_nil) pss_nil)
      (pss_cons (ps_ret (pv 4))
      pss_nil)))), w4_run (N := ["q", "hand", "t", "source", "k", "apart"]) psl_own psl_own psl_own psl_own (mB := traB) (ρ := fun (q : Nat) (hand : Nat) (t : Nat) (source : Nat) => [.own (enc (q : Nat)), .own (enc (hand : Nat)), .own (enc (t : Nat)), .own (enc (source : Nat)), .any, .any]) (ρn := fun _ => []) (ρb := fun _ => []) (C := fun _ => True) (fun _ _ _ _ => rfl) trivial (fun (q : Nat) (hand : Nat) (t : Nat) (source : Nat) => 
  (rb_asg (ρ2 := fun (k_1 : Nat) => [.own (enc (q : Nat)), .own (enc (hand : Nat)), .own (enc (t : Nat)), .own (enc (source : Nat)), .own (enc (k_1 : Nat)), .any]) (re_op ow_modN (re_v (i := 2) (a := (t : Nat)) rfl) (re_v (i := 0) (a := (q : Nat)) rfl)) (fun (k_1 : Nat) => rg_name (i := 4) (show 4 < 6 by decide) rfl) (fun (k_1 : Nat) =>
  (rb_asg (ρ2 := fun (apart_2 : Nat) => [.own (enc (q : Nat)), .own (enc (hand : Nat)), .own (enc (t : Nat)), .own (enc (source : Nat)), .own (enc (k_1 : Nat)), .own (enc (apart_2 : Nat))]) (re_op ow_xorN (re_v (i := 1) (a := (hand : Nat)) rfl) (re_v (i := 3) (a := (source : Nat)) rfl)) (fun (apart_2 : Nat) => rg_name (i := 5) (show 5 < 6 by decide) rfl) (fun (apart_2 : Nat) =>
  (rb_if (ρ1 := fun (s_3 : Unit) => [.own (enc (q : Nat)), .own (enc (hand : Nat)), .own (enc (t : Nat)), .own (enc (source : Nat)), .own (enc (k_1 : Nat)), .own (enc (apart_2 : Nat))]) (rt_val (re_call2 (re_v (i := 5) (a := (apart_2 : Nat)) rfl) (re_v (i := 4) (a := (k_1 : Nat)) rfl)))
  (rb_ret (re_getW (re_call3 (re_v (i := 0) (a := (q : Nat)) rfl) (re_v (i := 5) (a := (apart_2 : Nat)) rfl) (re_v (i := 4) (a := (k_1 : Nat)) rfl))))
  (rb_end (s := (() : Unit)) ⟨.eq _, ⟨.eq _, ⟨.eq _, ⟨.eq _, ⟨.eq _, ⟨.eq _, trivial⟩⟩⟩⟩⟩⟩) (fun (s_3 : Unit) =>
  (rb_ret (re_v (i := 4) (a := (k_1 : Nat)) rfl))))))))) (by rw [traW_fn] at h; exact h)⟩
/-! ### letter_at -/
def leaB (q : Nat) (hand : Nat) (t : Nat) (source : Nat) : M (Ctl Int Unit Unit) :=
  (bindW (b2W (retW (t : Nat)) (retW (q : Nat)) (fun a b : Nat => reqW (0 < b) (retW (a % b)))) fun (k_1 : Nat) =>
  (bindW (c2W (b2W (retW (hand : Nat)) (retW (source : Nat)) (fun a b : Nat => retW (a ^^^ b))) (retW (k_1 : Nat)) fun A_1 A_2 => pureW (habW A_1 A_2)) fun B_ => seqW (if B_ = true then (bindW (b2W (mapW (fun n : Nat => (n : Int)) (retW (t : Nat))) (mapW (fun n : Nat => (n : Int)) (c3W (retW (q : Nat)) (c4W (retW (q : Nat)) (retW (hand : Nat)) (retW (t : Nat)) (retW (source : Nat)) fun A_1 A_2 A_3 A_4 => pureW (traW A_1 A_2 A_3 A_4)) (retW (k_1 : Nat)) fun A_1 A_2 A_3 => pureW (arqW A_1 A_2 A_3))) (fun a b : Int => retW (a - b))) fun r => retW (.ret r)) else (retW (.nxt (() : Unit)))) fun (s_2 : Unit) =>
  (bindW (b2W (mapW (fun n : Nat => (n : Int)) (retW (t : Nat))) (mapW (fun n : Nat => (n : Int)) (retW (q : Nat))) (fun a b : Int => retW (a - b))) fun r => retW (.ret r))))
theorem leaW_ex : ∃ g : Nat → Nat → Nat → Nat → M Int, ∀ q hand t source, g q hand t source = outW (leaB q hand t source) := ⟨fun q hand t source => outW (leaB q hand t source), fun _ _ _ _ => rfl⟩
/-- sealed -/
def leaW : Nat → Nat → Nat → Nat → M Int := Classical.choose leaW_ex
theorem leaW_eq (q : Nat) (hand : Nat) (t : Nat) (source : Nat) : leaW q hand t source = outW (leaB q hand t source) := Classical.choose_spec leaW_ex q hand t source
theorem leaW_fn : leaW = fun q hand t source => outW (leaB q hand t source) := funext fun q => funext fun hand => funext fun t => funext fun source => leaW_eq q hand t source
theorem scLea : FnScope ["q", "hand", "t", "source", "k"] ["q", "hand", "t", "source"] (defScope sLea) := ⟨rfl, rfl, rfl, by decide +kernel, rfl, by decide +kernel, by decide +kernel⟩
theorem ok_lea {f_arq f_hab f_tra : Addr} {d_arq d_hab d_tra : FuncData} (F : Fun K "letter_at" "letter_at" sLea f fd) (b : Bls mg) (c_arq : CalF P w K mg base 1 "arc" f_arq d_arq ["q", "j", "k"] (spW3 K T arqW)) (c_hab : CalF P w K mg base 1 "has_bit" f_hab d_hab ["hand", "k"] (spW2 K T habW)) (c_tra : CalS P w K mg base 7 "tree_at" f_tra d_tra ["q", "hand", "t", "source"] (spW4 K T traW)) (q_tra_3_0123 : KBinds K d_tra ["q", "hand", "t", "source"] ["source"] (gN 3 [0, 1, 2, 3]) (gN 3 [0, 1, 2, 3])) : FnOk P w K mg base CX0 8 f fd ["q", "hand", "t", "source"] (spW4 K T leaW) := by
  refine F.ok scLea (fun vs H Q E h => ?_) (fun cdv A outer s H vs Q E hr h => ?_)
  · exact spW4_len h
  · refine ⟨_, (pss_cons (ps_set (i := 4) scLea.nd rfl (.inl rfl) (pe_op op_modNN (pv 2) (pv 0)))
      (pss_cons (ps_if (pt_val (pe_call c_hab.G (hr.mono (by decide)) (by rfl) c_hab.g c_hab.kp c_hab.b .nil pass0 (pa_cons (pe_op op_xorN (pv 1) (pv 3)) (pa_cons (pv 4) pa_nil)))) (pss_cons (ps_ret (pe_op op_sub (pv 2) (pe_call c_arq.G (hr.mono (by decide)) (by rfl) c_arq.g c_arq.kp c_arq.b .nil pass0 (pa_cons (pv 0) (pa_cons (pe_callK c_tra.G (hr.mono (by decide)) (by rfl) c_tra.g c_tra.kp q_tra_3_0123 pass0 (pa_cons (pv 0) (pa_cons (pv 1) (pa_cons (pv 2) pa_nil))) (pk_cons (pv 3) pk_nil)) (pa_cons (pv 4) pa_nil))))))
      pss_nil) pss_nil)
      (pss_cons (ps_ret (pe_op op_sub (pv 2) (pv 0)))
      pss_nil))), w4_run (N := ["q", "hand", "t", "source", "k"]) psl_own psl_own psl_own psl_own (mB := leaB) (ρ := fun (q : Nat) (hand : Nat) (t : Nat) (source : Nat) => [.own (enc (q : Nat)), .own (enc (hand : Nat)), .own (enc (t : Nat)), .own (enc (source : Nat)), .any]) (ρn := fun _ => []) (ρb := fun _ => []) (C := fun _ => True) (fun _ _ _ _ => rfl) trivial (fun (q : Nat) (hand : Nat) (t : Nat) (source : Nat) => 
  (rb_asg (ρ2 := fun (k_1 : Nat) => [.own (enc (q : Nat)), .own (enc (hand : Nat)), .own (enc (t : Nat)), .own (enc (source : Nat)), .own (enc (k_1 : Nat))]) (re_op ow_modN (re_v (i := 2) (a := (t : Nat)) rfl) (re_v (i := 0) (a := (q : Nat)) rfl)) (fun (k_1 : Nat) => rg_name (i := 4) (show 4 < 5 by decide) rfl) (fun (k_1 : Nat) =>
  (rb_if (ρ1 := fun (s_2 : Unit) => [.own (enc (q : Nat)), .own (enc (hand : Nat)), .own (enc (t : Nat)), .own (enc (source : Nat)), .own (enc (k_1 : Nat))]) (rt_val (re_call2 (re_op ow_xorN (re_v (i := 1) (a := (hand : Nat)) rfl) (re_v (i := 3) (a := (source : Nat)) rfl)) (re_v (i := 4) (a := (k_1 : Nat)) rfl)))
  (rb_ret (re_op ow_sub (re_ofN (re_v (i := 2) (a := (t : Nat)) rfl)) (re_ofN (re_call3 (re_v (i := 0) (a := (q : Nat)) rfl) (rk_tra_3_0123 (re_v (i := 0) (a := (q : Nat)) rfl) (re_v (i := 1) (a := (hand : Nat)) rfl) (re_v (i := 2) (a := (t : Nat)) rfl) (re_v (i := 3) (a := (source : Nat)) rfl)) (re_v (i := 4) (a := (k_1 : Nat)) rfl)))))
  (rb_end (s := (() : Unit)) ⟨.eq _, ⟨.eq _, ⟨.eq _, ⟨.eq _, ⟨.eq _, trivial⟩⟩⟩⟩⟩) (fun (s_2 : Unit) =>
  (rb_ret (re_op ow_sub (re_ofN (re_v (i := 2) (a := (t : Nat)) rfl)) (re_ofN (re_v (i := 0) (a := (q : Nat)) rfl))))))))) (by rw [leaW_fn] at h; exact h)⟩
/-! ### due -/
def dueB (q : Nat) (m : Nat) (hand : Nat) (t : Nat) (source : Nat) : M (Ctl (Option Nat) Unit Unit) :=
  (bindW (c4W (retW (q : Nat)) (retW (hand : Nat)) (retW (t : Nat)) (retW (source : Nat)) fun A_1 A_2 A_3 A_4 => pureW (leaW A_1 A_2 A_3 A_4)) fun (letter_1 : Int) =>
  (bindW (b2W (retW (letter_1 : Int)) (mapW (fun n : Nat => (n : Int)) (retW (0 : Nat))) (fun a b : Int => retW (decide (a < b)))) fun B_ => seqW (if B_ = true then (bindW (retW (none : (Option Nat))) fun r => retW (.ret r)) else (retW (.nxt (() : Unit)))) fun (s_2 : Unit) =>
  (bindW (mapW some (bindW (b2W (retW (letter_1 : Int)) (mapW (fun n : Nat => (n : Int)) (b2W (retW (m : Nat)) (retW (1 : Nat)) (fun a b : Nat => reqW (b ≤ a) (retW (a - b))))) (fun a b : Int => retW (min a b))) fun z => reqW (0 ≤ z) (retW z.toNat))) fun r => retW (.ret r))))
theorem dueW_ex : ∃ g : Nat → Nat → Nat → Nat → Nat → M (Option Nat), ∀ q m hand t source, g q m hand t source = outW (dueB q m hand t source) := ⟨fun q m hand t source => outW (dueB q m hand t source), fun _ _ _ _ _ => rfl⟩
/-- sealed -/
def dueW : Nat → Nat → Nat → Nat → Nat → M (Option Nat) := Classical.choose dueW_ex
theorem dueW_eq (q : Nat) (m : Nat) (hand : Nat) (t : Nat) (source : Nat) : dueW q m hand t source = outW (dueB q m hand t source) := Classical.choose_spec dueW_ex q m hand t source
theorem dueW_fn : dueW = fun q m hand t source => outW (dueB q m hand t source) := funext fun q => funext fun m => funext fun hand => funext fun t => funext fun source => dueW_eq q m hand t source
theorem scDue : FnScope ["q", "m", "hand", "t", "source", "letter"] ["q", "m", "hand", "t", "source"] (defScope sDue) := ⟨rfl, rfl, rfl, by decide +kernel, rfl, by decide +kernel, by decide +kernel⟩
theorem ok_due {f_lea : Addr} {d_lea : FuncData} (F : Fun K "due" "due" sDue f fd) (b : Bls mg) (c_lea : CalF P w K mg base 8 "letter_at" f_lea d_lea ["q", "hand", "t", "source"] (spW4 K T leaW)) : FnOk P w K mg base CX0 9 f fd ["q", "m", "hand", "t", "source"] (spW5 K T dueW) := by
  refine F.ok scDue (fun vs H Q E h => ?_) (fun cdv A outer s H vs Q E hr h => ?_)
  · exact spW5_len h
  · refine ⟨_, (pss_cons (ps_set (i := 5) scDue.nd rfl (.inl rfl) (pe_call c_lea.G (hr.mono (by decide)) (by rfl) c_lea.g c_lea.kp c_lea.b .nil pass0 (pa_cons (pv 0) (pa_cons (pv 2) (pa_cons (pv 3) (pa_cons (pv 4) pa_nil))))))
      (pss_cons (ps_if (pt_cmpR op_lt (pv 5) pe_int (nomark _)) (pss_cons (ps_ret pe_non)
      pss_nil) pss_nil)
      (pss_cons (ps_ret (pe_callB (call_min2 rfl) (by rfl) b.min (by decide +kernel) (pa_cons (pv 5) (pa_cons (pe_op op_subN (pv 1) pe_int) pa_nil))))
      pss_nil))), w5_run (N := ["q", "m", "hand", "t", "source", "letter"]) psl_own psl_own psl_own psl_own psl_own (mB := dueB) (ρ := fun (q : Nat) (m : Nat) (hand : Nat) (t : Nat) (source : Nat) => [.own (enc (q : Nat)), .own (enc (m : Nat)), .own (enc (hand : Nat)), .own (enc (t : Nat)), .own (enc (source : Nat)), .any]) (ρn := fun _ => []) (ρb := fun _ => []) (C := fun _ => True) (fun _ _ _ _ _ => rfl) trivial (fun (q : Nat) (m : Nat) (hand : Nat) (t : Nat) (source : Nat) => 
  (rb_asg (ρ2 := fun (letter_1 : Int) => [.own (enc (q : Nat)), .own (enc (m : Nat)), .own (enc (hand : Nat)), .own (enc (t : Nat)), .own (enc (source : Nat)), .own (enc (letter_1 : Int))]) (re_call4 (re_v (i := 0) (a := (q : Nat)) rfl) (re_v (i := 2) (a := (hand : Nat)) rfl) (re_v (i := 3) (a := (t : Nat)) rfl) (re_v (i := 4) (a := (source : Nat)) rfl)) (fun (letter_1 : Int) => rg_name (i := 5) (show 5 < 6 by decide) rfl) (fun (letter_1 : Int) =>
  (rb_if (ρ1 := fun (s_2 : Unit) => [.own (enc (q : Nat)), .own (enc (m : Nat)), .own (enc (hand : Nat)), .own (enc (t : Nat)), .own (enc (source : Nat)), .own (enc (letter_1 : Int))]) (rt_test (re_op ow_lt (re_v (i := 5) (a := (letter_1 : Int)) rfl) (re_ofN (re_nat 0))))
  (rb_ret (re_none (α := Nat)))
  (rb_end (s := (() : Unit)) ⟨.eq _, ⟨.eq _, ⟨.eq _, ⟨.eq _, ⟨.eq _, ⟨.eq _, trivial⟩⟩⟩⟩⟩⟩) (fun (s_2 : Unit) =>
  (rb_ret (re_some (re_toN (re_cb2 ow_minZ (re_v (i := 5) (a := (letter_1 : Int)) rfl) (re_ofN (re_op ow_subN (re_v (i := 1) (a := (m : Nat)) rfl) (re_nat 1)))))))))))) (by rw [dueW_fn] at h; exact h)⟩
/-! ### told -/
def tolB (q : Nat) (m : Nat) (hand : Nat) (t : Nat) (source : Nat) : M (Ctl (Option (Nat × Nat)) Unit Unit) :=
  (bindW (c2W (retW (hand : Nat)) (b2W (retW (t : Nat)) (retW (q : Nat)) (fun a b : Nat => reqW (0 < b) (retW (a % b)))) fun A_1 A_2 => pureW (acrW A_1 A_2)) fun (other_1 : Nat) =>
  (bindW (c5W (retW (q : Nat)) (retW (m : Nat)) (retW (other_1 : Nat)) (retW (t : Nat)) (retW (source : Nat)) fun A_1 A_2 A_3 A_4 A_5 => pureW (dueW A_1 A_2 A_3 A_4 A_5)) fun (letter_2 : (Option Nat)) =>
  (bindW (bindW (retW (letter_2 : (Option Nat))) fun x : (Option Nat) => retW x.isNone) fun B_ => seqW (if B_ = true then (bindW (retW (none : (Option (Nat × Nat)))) fun r => retW (.ret r)) else (retW (.nxt (() : Unit)))) fun (s_3 : Unit) =>
  (bindW (mapW some (b2W (retW (other_1 : Nat)) (getW (retW (letter_2 : (Option Nat)))) fun a b => retW (a, b))) fun r => retW (.ret r)))))
theorem tolW_ex : ∃ g : Nat → Nat → Nat → Nat → Nat → M (Option (Nat × Nat)), ∀ q m hand t source, g q m hand t source = outW (tolB q m hand t source) := ⟨fun q m hand t source => outW (tolB q m hand t source), fun _ _ _ _ _ => rfl⟩
/-- sealed -/
def tolW : Nat → Nat → Nat → Nat → Nat → M (Option (Nat × Nat)) := Classical.choose tolW_ex
theorem tolW_eq (q : Nat) (m : Nat) (hand : Nat) (t : Nat) (source : Nat) : tolW q m hand t source = outW (tolB q m hand t source) := Classical.choose_spec tolW_ex q m hand t source
theorem tolW_fn : tolW = fun q m hand t source => outW (tolB q m hand t source) := funext fun q => funext fun m => funext fun hand => funext fun t => funext fun source => tolW_eq q m hand t source
theorem scTol : FnScope ["q", "m", "hand", "t", "source", "other", "letter"] ["q", "m", "hand", "t", "source"] (defScope sTol) := ⟨rfl, rfl, rfl, by decide +kernel, rfl, by decide +kernel, by decide +kernel⟩
theorem ok_tol {f_acr f_due : Addr} {d_acr d_due : FuncData} (F : FunS K "told" sTol f fd) (b : Bls mg) (c_acr : CalF P w K mg base 1 "across" f_acr d_acr ["hand", "k"] (spW2 K T acrW)) (c_due : CalF P w K mg base 9 "due" f_due d_due ["q", "m", "hand", "t", "source"] (spW5 K T dueW)) : FnOk P w K mg base CX0 10 f fd ["q", "m", "hand", "t", "source"] (spW5 K T tolW) := by
  refine F.go scTol (fun vs H Q E h => ?_) (fun cdv A outer s H vs Q E hr h => ?_)
  · exact spW5_len h
  · refine ⟨_, (pss_cons (ps_set (i := 5) scTol.nd rfl (.inl rfl) (pe_call c_acr.G (hr.mono (by decide)) (by rfl) c_acr.g c_acr.kp c_acr.b .nil pass0 (pa_cons (pv 2) (pa_cons (pe_op op_modNN (pv 3) (pv 0)) pa_nil))))
      (pss_cons (ps_set (i := 6) scTol.nd rfl (.inl rfl) (pe_call c_due.G (hr.mono (by decide)) (by rfl) c_due.g c_due.kp c_due.b .nil pass0 (pa_cons (pv 0) (pa_cons (pv 1) (pa_cons (pv 5) (pa_cons (pv 3) (pa_cons (pv 4) pa_nil)))))))
      (pss_cons (ps_if (pt_cmp (pc_isN (pv 6))) (pss_cons (ps_ret pe_non)
      pss_nil) pss_nil)
      (pss_cons (ps_ret (pe_tup (pa_cons (pv 5) (pa_cons (pv 6) pa_nil))))
      pss_nil)))), w5_run (N := ["q", "m", "hand", "t", "source", "other", "letter"]) psl_own psl_own psl_own psl_own psl_own (mB := tolB) (ρ := fun (q : Nat) (m : Nat) (hand : Nat) (t : Nat) (source : Nat) => [.own (enc (q : Nat)), .own (enc (m : Nat)), .own (enc (hand : Nat)), .own (enc (t : Nat)), .own (enc (source : Nat)), .any, .any]) (ρn := fun _ => []) (ρb := fun _ => []) (C := fun _ => True) (fun _ _ _ _ _ => rfl) trivial (fun (q : Nat) (m : Nat) (hand : Nat) (t : Nat) (source : Nat) => 
  (rb_asg (ρ2 := fun (other_1 : Nat) => [.own (enc (q : Nat)), .own (enc (m : Nat)), .own (enc (hand : Nat)), .own (enc (t : Nat)), .own (enc (source : Nat)), .own (enc (other_1 : Nat)), .any]) (re_call2 (re_v (i := 2) (a := (hand : Nat)) rfl) (re_op ow_modN (re_v (i := 3) (a := (t : Nat)) rfl) (re_v (i := 0) (a := (q : Nat)) rfl))) (fun (other_1 : Nat) => rg_name (i := 5) (show 5 < 7 by decide) rfl) (fun (other_1 : Nat) =>
  (rb_asg (ρ2 := fun (letter_2 : (Option Nat)) => [.own (enc (q : Nat)), .own (enc (m : Nat)), .own (enc (hand : Nat)), .own (enc (t : Nat)), .own (enc (source : Nat)), .own (enc (other_1 : Nat)), .own (enc (letter_2 : (Option Nat)))]) (re_call5 (re_v (i := 0) (a := (q : Nat)) rfl) (re_v (i := 1) (a := (m : Nat)) rfl) (re_v (i := 5) (a := (other_1 : Nat)) rfl) (re_v (i := 3) (a := (t : Nat)) rfl) (re_v (i := 4) (a := (source : Nat)) rfl)) (fun (letter_2 : (Option Nat)) => rg_name (i := 6) (show 6 < 7 by decide) rfl) (fun (letter_2 : (Option Nat)) =>
  (rb_if (ρ1 := fun (s_3 : Unit) => [.own (enc (q : Nat)), .own (enc (m : Nat)), .own (enc (hand : Nat)), .own (enc (t : Nat)), .own (enc (source : Nat)), .own (enc (other_1 : Nat)), .own (enc (letter_2 : (Option Nat)))]) (rt_val (re_un (ta := (tVar 6)) (t := tIsN (tVar 6)) (fun _ _ _ h => h) uw_isN (re_v (i := 6) (a := (letter_2 : (Option Nat))) rfl)))
  (rb_ret (re_none (α := (Nat × Nat))))
  (rb_end (s := (() : Unit)) ⟨.eq _, ⟨.eq _, ⟨.eq _, ⟨.eq _, ⟨.eq _, ⟨.eq _, ⟨.eq _, trivial⟩⟩⟩⟩⟩⟩⟩) (fun (s_3 : Unit) =>
  (rb_ret (re_some (re_pair (re_v (i := 5) (a := (other_1 : Nat)) rfl) (re_getW (re_v (i := 6) (a := (letter_2 : (Option Nat))) rfl)))))))))))) (by rw [tolW_fn] at h; exact h)⟩
end
end Bf
namespace Bf
open PySem PySem.Spec PyProof.Rows L2 LamX NdefX
noncomputable section
variable {P : Program} {w : World} {K : PySem.W.Frag} {mg : Str → Option Value} {base : Heap} {f : Addr} {fd : FuncData} {k : Nat} {T : List (Addr × Str)}
/-! ### end -/
def endeB (q : Nat) (m : Nat) : M (Ctl Nat Unit Unit) :=
  (bindW (b2W (b2W (retW (m : Nat)) (retW (1 : Nat)) (fun a b : Nat => reqW (b ≤ a) (retW (a - b)))) (retW (q : Nat)) (fun a b : Nat => retW (a + b))) fun r => retW (.ret r))
theorem endeW_ex : ∃ g : Nat → Nat → M Nat, ∀ q m, g q m = outW (endeB q m) := ⟨fun q m => outW (endeB q m), fun _ _ => rfl⟩
/-- sealed -/
def endeW : Nat → Nat → M Nat := Classical.choose endeW_ex
theorem endeW_eq (q : Nat) (m : Nat) : endeW q m = outW (endeB q m) := Classical.choose_spec endeW_ex q m
theorem endeW_fn : endeW = fun q m => outW (endeB q m) := funext fun q => funext fun m => endeW_eq q m
theorem scEnde : FnScope ["q", "m"] ["q", "m"] (defScope sEnde) := ⟨rfl, rfl, rfl, by decide +kernel, rfl, by decide +kernel, by decide +kernel⟩
theorem ok_ende (F : Fun K "end" "end" sEnde f fd) (b : Bls mg) : FnOk P w K mg base CX0 1 f fd ["q", "m"] (spW2 K T endeW) := by
  refine F.ok scEnde (fun vs H Q E h => ?_) (fun cdv A outer s H vs Q E hr h => ?_)
  · exact spW2_len h
  · refine ⟨_, (pss_cons (ps_ret (pe_op op_addN (pe_op op_subN (pv 1) pe_int) (pv 0)))
      pss_nil), w2_run (N := ["q", "m"]) psl_own psl_own (mB := endeB) (ρ := fun (q : Nat) (m : Nat) => [.own (enc (q : Nat)), .own (enc (m : Nat))]) (ρn := fun _ => []) (ρb := fun _ => []) (C := fun _ => True) (fun _ _ => rfl) trivial (fun (q : Nat) (m : Nat) => 
  (rb_ret (re_op ow_addN (re_op ow_subN (re_v (i := 1) (a := (m : Nat)) rfl) (re_nat 1)) (re_v (i := 0) (a := (q : Nat)) rfl)))) (by rw [endeW_fn] at h; exact h)⟩
/-! ### tellings -/
def tlsB (q : Nat) (m : Nat) (t : Nat) (source : Nat) : M (Ctl (List (T3 Nat Nat Nat)) Unit Unit) :=
  (bindW (bindW (retW ([] : List (T3 Nat Nat Nat))) fun xs => reqW (xs.length ≤ sizeLine) (retW (⟨xs⟩ : (Lst (T3 Nat Nat Nat))))) fun (some_1 : (Lst (T3 Nat Nat Nat))) =>
  (bindW (bindW (b2W (retW (1 : Nat)) (retW (q : Nat)) (fun a b : Nat => reqW (a = 1 ∧ b ≤ 134217727) (retW (2 ^ b)))) fun k => reqW (k < 4611686018427387904) (retW (List.range k))) fun X_ => seqW (forW (fun (teller_3 : Nat) (s_2 : (Lst (T3 Nat Nat Nat))) =>
  (bindW (c5W (retW (q : Nat)) (retW (m : Nat)) (retW (teller_3 : Nat)) (retW (t : Nat)) (retW (source : Nat)) fun A_1 A_2 A_3 A_4 A_5 => pureW (tolW A_1 A_2 A_3 A_4 A_5)) fun (answer_4 : (Option (Nat × Nat))) =>
  (bindW (bindW (retW (answer_4 : (Option (Nat × Nat)))) fun x : (Option (Nat × Nat)) => retW (!x.isNone)) fun B_ => seqW (if B_ = true then (bindW (getW (retW (answer_4 : (Option (Nat × Nat))))) fun (p_6 : (Nat × Nat)) =>
  (bindW (t3W (retW (teller_3 : Nat)) (retW (p_6.1 : Nat)) (retW (p_6.2 : Nat))) fun (y_7 : (T3 Nat Nat Nat)) => reqW ((s_2 : (Lst (T3 Nat Nat Nat))).l.length < sizeLine)
  (retW (.nxt ((⟨(s_2 : (Lst (T3 Nat Nat Nat))).l ++ [y_7]⟩ : (Lst (T3 Nat Nat Nat))) : (Lst (T3 Nat Nat Nat))))))) else (retW (.nxt (s_2 : (Lst (T3 Nat Nat Nat)))))) fun (s_5 : (Lst (T3 Nat Nat Nat))) =>
  (retW (.nxt (s_5 : (Lst (T3 Nat Nat Nat)))))))) X_ (some_1 : (Lst (T3 Nat Nat Nat)))) fun (s_2 : (Lst (T3 Nat Nat Nat))) =>
  (bindW (bindW (retW (s_2 : (Lst (T3 Nat Nat Nat)))) fun xs : (Lst (T3 Nat Nat Nat)) => retW xs.l) fun r => retW (.ret r))))
theorem tlsW_ex : ∃ g : Nat → Nat → Nat → Nat → M (List (T3 Nat Nat Nat)), ∀ q m t source, g q m t source = outW (tlsB q m t source) := ⟨fun q m t source => outW (tlsB q m t source), fun _ _ _ _ => rfl⟩
/-- sealed -/
def tlsW : Nat → Nat → Nat → Nat → M (List (T3 Nat Nat Nat)) := Classical.choose tlsW_ex
theorem tlsW_eq (q : Nat) (m : Nat) (t : Nat) (source : Nat) : tlsW q m t source = outW (tlsB q m t source) := Classical.choose_spec tlsW_ex q m t source
theorem tlsW_fn : tlsW = fun q m t source => outW (tlsB q m t source) := funext fun q => funext fun m => funext fun t => funext fun source => tlsW_eq q m t source
theorem scTls : FnScope ["q", "m", "t", "source", "some", "teller", "answer", "hearer", "letter"] ["q", "m", "t", "source"] (defScope sTls) := ⟨rfl, rfl, rfl, by decide +kernel, rfl, by decide +kernel, by decide +kernel⟩
theorem ok_tls {f_tol : Addr} {d_tol : FuncData} (F : Fun K "tellings" "tellings" sTls f fd) (b : Bls mg) (c_tol : CalS P w K mg base 10 "told" f_tol d_tol ["q", "m", "hand", "t", "source"] (spW5 K T tolW)) (q_tol_4_01234 : KBinds K d_tol ["q", "m", "hand", "t", "source"] ["source"] (gN 4 [0, 1, 2, 3, 4]) (gN 4 [0, 1, 2, 3, 4])) : FnOk P w K mg base CX0 11 f fd ["q", "m", "t", "source"] (spW4 K T tlsW) := by
  refine F.ok scTls (fun vs H Q E h => ?_) (fun cdv A outer s H vs Q E hr h => ?_)
  · exact spW4_len h
  · refine ⟨_, (pss_cons (ps_set (i := 4) scTls.nd rfl (.inl rfl) (pe_lst pa_nil))
      (pss_cons (ps_for PassesOwn.never rfl (pi_range1 (by rfl) b.range (pa_cons (pe_op op_bit pe_int (pv 0)) pa_nil)) (pg_name (i := 5) scTls.nd rfl (Or.inl rfl))
      (pss_cons (ps_set (i := 6) scTls.nd rfl (.inl rfl) (pe_callK c_tol.G (hr.mono (by decide)) (by rfl) c_tol.g c_tol.kp q_tol_4_01234 pass0 (pa_cons (pv 0) (pa_cons (pv 1) (pa_cons (pv 5) (pa_cons (pv 2) pa_nil)))) (pk_cons (pv 3) pk_nil)))
      (pss_cons (ps_if (pt_cmp (pc_notN (pv 6))) (pss_cons (ps_asg (pv 6) (pg_tup (by rfl) (pgs_cons (pg_name (i := 7) scTls.nd rfl (Or.inl rfl)) (pgs_cons (pg_name (i := 8) scTls.nd rfl (Or.inl rfl)) pgs_nil))))
      (pss_cons (ps_expr (pe_bm PySem.F.plainAttrs_list PySem.F.slot_list_append PySem.F.type_list_append mt_append (pv 4) (pa_cons (pe_tup (pa_cons (pv 5) (pa_cons (pv 7) (pa_cons (pv 8) pa_nil)))) pa_nil)))
      pss_nil)) pss_nil)
      pss_nil)))
      (pss_cons (ps_ret (pe_callTy call_tuple_of (by rfl) b.tuple (by decide +kernel) (pa_cons (pv 4) pa_nil)))
      pss_nil))), w4_run (N := ["q", "m", "t", "source", "some", "teller", "answer", "hearer", "letter"]) psl_own psl_own psl_own psl_own (mB := tlsB) (ρ := fun (q : Nat) (m : Nat) (t : Nat) (source : Nat) => [.own (enc (q : Nat)), .own (enc (m : Nat)), .own (enc (t : Nat)), .own (enc (source : Nat)), .any, .any, .any, .any, .any]) (ρn := fun _ => []) (ρb := fun _ => []) (C := fun _ => True) (fun _ _ _ _ => rfl) trivial (fun (q : Nat) (m : Nat) (t : Nat) (source : Nat) => 
  (rb_asg (ρ2 := fun (some_1 : (Lst (T3 Nat Nat Nat))) => [.own (enc (q : Nat)), .own (enc (m : Nat)), .own (enc (t : Nat)), .own (enc (source : Nat)), .own (enc (some_1 : (Lst (T3 Nat Nat Nat)))), .any, .any, .any, .any]) (re_lst (α := (T3 Nat Nat Nat)) ras_nil) (fun (some_1 : (Lst (T3 Nat Nat Nat))) => rg_name (i := 4) (show 4 < 9 by decide) rfl) (fun (some_1 : (Lst (T3 Nat Nat Nat))) =>
  (rb_for (s0 := (some_1 : (Lst (T3 Nat Nat Nat)))) (ρl := fun (s_2 : (Lst (T3 Nat Nat Nat))) => [.own (enc (q : Nat)), .own (enc (m : Nat)), .own (enc (t : Nat)), .own (enc (source : Nat)), .own (enc (s_2 : (Lst (T3 Nat Nat Nat)))), .any, .any, .any, .any]) (ρx := fun (teller_3 : Nat) (s_2 : (Lst (T3 Nat Nat Nat))) => [.own (enc (q : Nat)), .own (enc (m : Nat)), .own (enc (t : Nat)), .own (enc (source : Nat)), .own (enc (s_2 : (Lst (T3 Nat Nat Nat)))), .own (enc (teller_3 : Nat)), .any, .any, .any]) (ri_range (re_op ow_bit (re_nat 1) (re_v (i := 0) (a := (q : Nat)) rfl))) ⟨.eq _, ⟨.eq _, ⟨.eq _, ⟨.eq _, ⟨.eq _, ⟨.any _, ⟨.any _, ⟨.any _, ⟨.any _, trivial⟩⟩⟩⟩⟩⟩⟩⟩⟩ (fun (teller_3 : Nat) (s_2 : (Lst (T3 Nat Nat Nat))) => (rg_name (i := 5) (ρ' := [.own (enc (q : Nat)), .own (enc (m : Nat)), .own (enc (t : Nat)), .own (enc (source : Nat)), .own (enc (s_2 : (Lst (T3 Nat Nat Nat)))), .own (enc (teller_3 : Nat)), .any, .any, .any]) (show 5 < 9 by decide) rfl)) (fun (teller_3 : Nat) (s_2 : (Lst (T3 Nat Nat Nat))) =>
  (rb_asg (ρ2 := fun (answer_4 : (Option (Nat × Nat))) => [.own (enc (q : Nat)), .own (enc (m : Nat)), .own (enc (t : Nat)), .own (enc (source : Nat)), .own (enc (s_2 : (Lst (T3 Nat Nat Nat)))), .own (enc (teller_3 : Nat)), .own (enc (answer_4 : (Option (Nat × Nat)))), .any, .any]) (rk_tol_4_01234 (re_v (i := 0) (a := (q : Nat)) rfl) (re_v (i := 1) (a := (m : Nat)) rfl) (re_v (i := 5) (a := (teller_3 : Nat)) rfl) (re_v (i := 2) (a := (t : Nat)) rfl) (re_v (i := 3) (a := (source : Nat)) rfl)) (fun (answer_4 : (Option (Nat × Nat))) => rg_name (i := 6) (show 6 < 9 by decide) rfl) (fun (answer_4 : (Option (Nat × Nat))) =>
  (rb_if (ρ1 := fun (s_5 : (Lst (T3 Nat Nat Nat))) => [.own (enc (q : Nat)), .own (enc (m : Nat)), .own (enc (t : Nat)), .own (enc (source : Nat)), .own (enc (s_5 : (Lst (T3 Nat Nat Nat)))), .own (enc (teller_3 : Nat)), .own (enc (answer_4 : (Option (Nat × Nat)))), .any, .any]) (rt_val (re_un (ta := (tVar 6)) (t := tNotN (tVar 6)) (fun _ _ _ h => h) uw_notNP (re_v (i := 6) (a := (answer_4 : (Option (Nat × Nat)))) rfl)))
  (rb_asg (ρ2 := fun (p_6 : (Nat × Nat)) => [.own (enc (q : Nat)), .own (enc (m : Nat)), .own (enc (t : Nat)), .own (enc (source : Nat)), .own (enc (s_2 : (Lst (T3 Nat Nat Nat)))), .own (enc (teller_3 : Nat)), .own (enc (answer_4 : (Option (Nat × Nat)))), .own (enc (p_6.1 : Nat)), .own (enc (p_6.2 : Nat))]) (re_getW (re_v (i := 6) (a := (answer_4 : (Option (Nat × Nat)))) rfl)) (fun (p_6 : (Nat × Nat)) => (rg_two (i := 7) (j := 8) (ρ1 := [.own (enc (q : Nat)), .own (enc (m : Nat)), .own (enc (t : Nat)), .own (enc (source : Nat)), .own (enc (s_2 : (Lst (T3 Nat Nat Nat)))), .own (enc (teller_3 : Nat)), .own (enc (answer_4 : (Option (Nat × Nat)))), .own (enc (p_6.1 : Nat)), .any]) (ρ' := [.own (enc (q : Nat)), .own (enc (m : Nat)), .own (enc (t : Nat)), .own (enc (source : Nat)), .own (enc (s_2 : (Lst (T3 Nat Nat Nat)))), .own (enc (teller_3 : Nat)), .own (enc (answer_4 : (Option (Nat × Nat)))), .own (enc (p_6.1 : Nat)), .own (enc (p_6.2 : Nat))]) (show 7 < 9 by decide) (show 8 < 9 by decide) (by decide) rfl rfl)) (fun (p_6 : (Nat × Nat)) =>
  (rb_append (i := 4) (xs := (s_2 : (Lst (T3 Nat Nat Nat)))) (ρ2 := fun (y_7 : (T3 Nat Nat Nat)) => [.own (enc (q : Nat)), .own (enc (m : Nat)), .own (enc (t : Nat)), .own (enc (source : Nat)), .own (enc ((⟨(s_2 : (Lst (T3 Nat Nat Nat))).l ++ [y_7]⟩ : (Lst (T3 Nat Nat Nat))) : (Lst (T3 Nat Nat Nat)))), .own (enc (teller_3 : Nat)), .own (enc (answer_4 : (Option (Nat × Nat)))), .own (enc (p_6.1 : Nat)), .own (enc (p_6.2 : Nat))]) rfl (re_t3 (re_v (i := 5) (a := (teller_3 : Nat)) rfl) (re_v (i := 7) (a := (p_6.1 : Nat)) rfl) (re_v (i := 8) (a := (p_6.2 : Nat)) rfl)) (fun _ => rfl) (fun (y_7 : (T3 Nat Nat Nat)) =>
  (rb_end (s := ((⟨(s_2 : (Lst (T3 Nat Nat Nat))).l ++ [y_7]⟩ : (Lst (T3 Nat Nat Nat))) : (Lst (T3 Nat Nat Nat)))) ⟨.eq _, ⟨.eq _, ⟨.eq _, ⟨.eq _, ⟨.eq _, ⟨.eq _, ⟨.eq _, ⟨.any _, ⟨.any _, trivial⟩⟩⟩⟩⟩⟩⟩⟩⟩)))))
  (rb_end (s := (s_2 : (Lst (T3 Nat Nat Nat)))) ⟨.eq _, ⟨.eq _, ⟨.eq _, ⟨.eq _, ⟨.eq _, ⟨.eq _, ⟨.eq _, ⟨.any _, ⟨.any _, trivial⟩⟩⟩⟩⟩⟩⟩⟩⟩) (fun (s_5 : (Lst (T3 Nat Nat Nat))) =>
  (rb_end (s := (s_5 : (Lst (T3 Nat Nat Nat)))) ⟨.eq _, ⟨.eq _, ⟨.eq _, ⟨.eq _, ⟨.eq _, ⟨.any _, ⟨.any _, ⟨.any _, ⟨.any _, trivial⟩⟩⟩⟩⟩⟩⟩⟩⟩)))))) (fun (s_2 : (Lst (T3 Nat Nat Nat))) =>
  (rb_freeze (i := 4) (ρ2 := [.own (enc (q : Nat)), .own (enc (m : Nat)), .own (enc (t : Nat)), .own (enc (source : Nat)), .bor (enc (s_2 : (Lst (T3 Nat Nat Nat)))), .any, .any, .any, .any]) rfl rfl (rb_ret (re_cb uw_tupL (re_bor (i := 4) (a := (s_2 : (Lst (T3 Nat Nat Nat)))) rfl))))))))) (by rw [tlsW_fn] at h; exact h)⟩
/-! ### plan -/
def plaB (q : Nat) (m : Nat) (source : Nat) : M (Ctl (List (List (T3 Nat Nat Nat))) Unit Unit) :=
  (bindW (bindW (bindW (bindW (c2W (retW (q : Nat)) (retW (m : Nat)) fun A_1 A_2 => pureW (endeW A_1 A_2)) fun k => reqW (k < 4611686018427387904) (retW (List.range k))) fun X_ => reqW (X_.length ≤ sizeLine) (lcW (fun (t_1 : Nat) => (retW true)) (fun (t_1 : Nat) => (c4W (retW (q : Nat)) (retW (m : Nat)) (retW (t_1 : Nat)) (retW (source : Nat)) fun A_1 A_2 A_3 A_4 => pureW (tlsW A_1 A_2 A_3 A_4))) X_ [])) fun xs : (Lst (List (T3 Nat Nat Nat))) => retW xs.l) fun r => retW (.ret r))
theorem plaW_ex : ∃ g : Nat → Nat → Nat → M (List (List (T3 Nat Nat Nat))), ∀ q m source, g q m source = outW (plaB q m source) := ⟨fun q m source => outW (plaB q m source), fun _ _ _ => rfl⟩
/-- sealed -/
def plaW : Nat → Nat → Nat → M (List (List (T3 Nat Nat Nat))) := Classical.choose plaW_ex
theorem plaW_eq (q : Nat) (m : Nat) (source : Nat) : plaW q m source = outW (plaB q m source) := Classical.choose_spec plaW_ex q m source
theorem plaW_fn : plaW = fun q m source => outW (plaB q m source) := funext fun q => funext fun m => funext fun source => plaW_eq q m source
theorem scPla : FnScope ["q", "m", "source", "t"] ["q", "m", "source"] (defScope sPla) := ⟨rfl, rfl, rfl, by decide +kernel, rfl, by decide +kernel, by decide +kernel⟩
theorem ok_pla {f_ende f_tls : Addr} {d_ende d_tls : FuncData} (F : FunS K "plan" sPla f fd) (b : Bls mg) (c_ende : CalF P w K mg base 1 "end" f_ende d_ende ["q", "m"] (spW2 K T endeW)) (c_tls : CalF P w K mg base 11 "tellings" f_tls d_tls ["q", "m", "t", "source"] (spW4 K T tlsW)) : FnOk P w K mg base CX0 12 f fd ["q", "m", "source"] (spW3 K T plaW) := by
  refine F.go scPla (fun vs H Q E h => ?_) (fun cdv A outer s H vs Q E hr h => ?_)
  · exact spW3_len h
  · refine ⟨_, (pss_cons (ps_ret (pe_callTy call_tuple_of (by rfl) b.tuple (by decide +kernel) (pa_cons (pe_lc (own := [("t", 3)]) (g := (gName 3)) (tt := tYes) (te := (tCall (spW4 K T tlsW) [] E0 (tCons (tVar 0) (tCons (tVar 1) (tCons (tVar 3) (tCons (tVar 2) tNil)))))) (by rfl) scPla.nd (pi_range1 (by rfl) b.range (pa_cons (pe_call c_ende.G (hr.mono (by decide)) (by rfl) c_ende.g c_ende.kp c_ende.b .nil pass0 (pa_cons (pv 0) (pa_cons (pv 1) pa_nil))) pa_nil)) (blkOk_by (own := [("t", 3)]) (N := ["q", "m", "source", "t"]) (sc := defScope sPla) (by decide +kernel)) (fun _ _ _ _ _ => (pg_name (i := 3) scPla.nd rfl (Or.inl rfl))) (fun _ _ _ _ _ => pts_nil) (fun _ _ _ _ _ => (pe_call c_tls.G (hr.mono (by decide)) (by rfl) c_tls.g c_tls.kp c_tls.b .nil pass0 (pa_cons (pv 0) (pa_cons (pv 1) (pa_cons (pv 3) (pa_cons (pv 2) pa_nil))))))) pa_nil)))
      pss_nil), w3_run (N := ["q", "m", "source", "t"]) psl_own psl_own psl_own (mB := plaB) (ρ := fun (q : Nat) (m : Nat) (source : Nat) => [.own (enc (q : Nat)), .own (enc (m : Nat)), .own (enc (source : Nat)), .any]) (ρn := fun _ => []) (ρb := fun _ => []) (C := fun _ => True) (fun _ _ _ => rfl) trivial (fun (q : Nat) (m : Nat) (source : Nat) => 
  (rb_ret (re_cb uw_tupL (re_lc (vs := [3]) (ρw := [.own (enc (q : Nat)), .own (enc (m : Nat)), .own (enc (source : Nat)), .any]) (ρx := fun (t_1 : Nat) => [.own (enc (q : Nat)), .own (enc (m : Nat)), .own (enc (source : Nat)), .own (enc (t_1 : Nat))]) rfl (ri_range (re_call2 (re_v (i := 0) (a := (q : Nat)) rfl) (re_v (i := 1) (a := (m : Nat)) rfl))) (by decide) (fun (t_1 : Nat) => (rg_name (i := 3) (ρ' := [.own (enc (q : Nat)), .own (enc (m : Nat)), .own (enc (source : Nat)), .own (enc (t_1 : Nat))]) (show 3 < 4 by decide) rfl)) (fun (t_1 : Nat) => rt_yes) (fun (t_1 : Nat) => (re_call4 (re_v (i := 0) (a := (q : Nat)) rfl) (re_v (i := 1) (a := (m : Nat)) rfl) (re_v (i := 3) (a := (t_1 : Nat)) rfl) (re_v (i := 2) (a := (source : Nat)) rfl))))))) (by rw [plaW_fn] at h; exact h)⟩
/-! ### outcome -/
def oucB (hands : Nat) (m : Nat) (first : (Dct (Nat × Nat) Int)) : M (Ctl Vd Unit Unit) :=
  (bindW (mapW (fun z : Int => -z) (retW (1 : Int))) fun (last_1 : Int) =>
  (bindW (bindW (retW (hands : Nat)) fun k => reqW (k < 4611686018427387904) (retW (List.range k))) fun X_ => seqW (forW (fun (hand_3 : Nat) (s_2 : Int) =>
  (bindW (bindW (retW (m : Nat)) fun k => reqW (k < 4611686018427387904) (retW (List.range k))) fun X_ => seqW (forW (fun (letter_5 : Nat) (s_4 : Int) =>
  (bindW (bindW (b2W (retW (hand_3 : Nat)) (retW (letter_5 : Nat)) fun a b => retW (a, b)) fun k_ : (Nat × Nat) => retW (!(dGet (first : (Dct (Nat × Nat) Int)).l k_).isSome)) fun B_ => seqW (if B_ = true then (bindW (b2W (retW (hand_3 : Nat)) (retW (letter_5 : Nat)) fun a b => retW (Vd.lacks a b)) fun r => retW (.ret r)) else (retW (.nxt (() : Unit)))) fun (s_6 : Unit) =>
  (bindW (b2W (retW (s_4 : Int)) (bindW (b2W (retW (hand_3 : Nat)) (retW (letter_5 : Nat)) fun a b => retW (a, b)) fun k_ : (Nat × Nat) => fun n_ P_ => ∃ b_, dGet (first : (Dct (Nat × Nat) Int)).l k_ = some b_ ∧ P_ b_ n_) (fun a b : Int => retW (max a b))) fun (last_7 : Int) =>
  (retW (.nxt (last_7 : Int)))))) X_ (s_2 : Int)) fun (s_4 : Int) =>
  (retW (.nxt (s_4 : Int))))) X_ (last_1 : Int)) fun (s_2 : Int) =>
  (bindW (mapW Vd.done (b2W (retW (s_2 : Int)) (mapW (fun n : Nat => (n : Int)) (retW (1 : Nat))) (fun a b : Int => retW (a + b)))) fun r => retW (.ret r))))
theorem oucW_ex : ∃ g : Nat → Nat → (Dct (Nat × Nat) Int) → M Vd, ∀ hands m first, g hands m first = outW (oucB hands m first) := ⟨fun hands m first => outW (oucB hands m first), fun _ _ _ => rfl⟩
/-- sealed -/
def oucW : Nat → Nat → (Dct (Nat × Nat) Int) → M Vd := Classical.choose oucW_ex
theorem oucW_eq (hands : Nat) (m : Nat) (first : (Dct (Nat × Nat) Int)) : oucW hands m first = outW (oucB hands m first) := Classical.choose_spec oucW_ex hands m first
theorem oucW_fn : oucW = fun hands m first => outW (oucB hands m first) := funext fun hands => funext fun m => funext fun first => oucW_eq hands m first
theorem scOuc : FnScope ["hands", "m", "first", "last", "hand", "letter"] ["hands", "m", "first"] (defScope sOuc) := ⟨rfl, rfl, rfl, by decide +kernel, rfl, by decide +kernel, by decide +kernel⟩
theorem ok_ouc (F : Fun K "outcome" "outcome" sOuc f fd) (b : Bls mg) : FnOk P w K mg base CX0 1 f fd ["hands", "m", "first"] (spW3 K T oucW) := by
  refine F.ok scOuc (fun vs H Q E h => ?_) (fun cdv A outer s H vs Q E hr h => ?_)
  · exact spW3_len h
  · refine ⟨_, (pss_cons (ps_set (i := 3) scOuc.nd rfl (.inl rfl) (pe_un un_neg pe_int))
      (pss_cons (ps_for PassesOwn.never rfl (pi_range1 (by rfl) b.range (pa_cons (pv 0) pa_nil)) (pg_name (i := 4) scOuc.nd rfl (Or.inl rfl))
      (pss_cons (ps_for PassesOwn.never rfl (pi_range1 (by rfl) b.range (pa_cons (pv 1) pa_nil)) (pg_name (i := 5) scOuc.nd rfl (Or.inl rfl))
      (pss_cons (ps_if (pt_cmp (pc_dnotin (hu_of hr) (pe_tup (pa_cons (pv 4) (pa_cons (pv 5) pa_nil))) (pv 2))) (pss_cons (ps_ret (pe_tup (pa_cons pe_str (pa_cons (pv 4) (pa_cons (pv 5) pa_nil)))))
      pss_nil) pss_nil)
      (pss_cons (ps_set (i := 3) scOuc.nd rfl (.inl rfl) (pe_callB (call_max2 rfl) (by rfl) b.max (by decide +kernel) (pa_cons (pv 3) (pa_cons (pe_dget (hu_of hr) (pv 2) (pe_tup (pa_cons (pv 4) (pa_cons (pv 5) pa_nil))) (fun _ _ => rfl)) pa_nil))))
      pss_nil)))
      pss_nil))
      (pss_cons (ps_ret (pe_tup (pa_cons pe_str (pa_cons (pe_op op_add (pv 3) pe_int) pa_nil))))
      pss_nil))), w3_run (N := ["hands", "m", "first", "last", "hand", "letter"]) psl_own psl_own psl_bor (mB := oucB) (ρ := fun (hands : Nat) (m : Nat) (first : (Dct (Nat × Nat) Int)) => [.own (enc (hands : Nat)), .own (enc (m : Nat)), .bor (enc (first : (Dct (Nat × Nat) Int))), .any, .any, .any]) (ρn := fun _ => []) (ρb := fun _ => []) (C := fun _ => True) (fun _ _ _ => rfl) trivial (fun (hands : Nat) (m : Nat) (first : (Dct (Nat × Nat) Int)) => 
  (rb_asg (ρ2 := fun (last_1 : Int) => [.own (enc (hands : Nat)), .own (enc (m : Nat)), .bor (enc (first : (Dct (Nat × Nat) Int))), .own (enc (last_1 : Int)), .any, .any]) (re_neg (re_int 1)) (fun (last_1 : Int) => rg_name (i := 3) (show 3 < 6 by decide) rfl) (fun (last_1 : Int) =>
  (rb_for (s0 := (last_1 : Int)) (ρl := fun (s_2 : Int) => [.own (enc (hands : Nat)), .own (enc (m : Nat)), .bor (enc (first : (Dct (Nat × Nat) Int))), .own (enc (s_2 : Int)), .any, .any]) (ρx := fun (hand_3 : Nat) (s_2 : Int) => [.own (enc (hands : Nat)), .own (enc (m : Nat)), .bor (enc (first : (Dct (Nat × Nat) Int))), .own (enc (s_2 : Int)), .own (enc (hand_3 : Nat)), .any]) (ri_range (re_v (i := 0) (a := (hands : Nat)) rfl)) ⟨.eq _, ⟨.eq _, ⟨.eq _, ⟨.eq _, ⟨.any _, ⟨.any _, trivial⟩⟩⟩⟩⟩⟩ (fun (hand_3 : Nat) (s_2 : Int) => (rg_name (i := 4) (ρ' := [.own (enc (hands : Nat)), .own (enc (m : Nat)), .bor (enc (first : (Dct (Nat × Nat) Int))), .own (enc (s_2 : Int)), .own (enc (hand_3 : Nat)), .any]) (show 4 < 6 by decide) rfl)) (fun (hand_3 : Nat) (s_2 : Int) =>
  (rb_for (s0 := (s_2 : Int)) (ρl := fun (s_4 : Int) => [.own (enc (hands : Nat)), .own (enc (m : Nat)), .bor (enc (first : (Dct (Nat × Nat) Int))), .own (enc (s_4 : Int)), .own (enc (hand_3 : Nat)), .any]) (ρx := fun (letter_5 : Nat) (s_4 : Int) => [.own (enc (hands : Nat)), .own (enc (m : Nat)), .bor (enc (first : (Dct (Nat × Nat) Int))), .own (enc (s_4 : Int)), .own (enc (hand_3 : Nat)), .own (enc (letter_5 : Nat))]) (ri_range (re_v (i := 1) (a := (m : Nat)) rfl)) ⟨.eq _, ⟨.eq _, ⟨.eq _, ⟨.eq _, ⟨.eq _, ⟨.any _, trivial⟩⟩⟩⟩⟩⟩ (fun (letter_5 : Nat) (s_4 : Int) => (rg_name (i := 5) (ρ' := [.own (enc (hands : Nat)), .own (enc (m : Nat)), .bor (enc (first : (Dct (Nat × Nat) Int))), .own (enc (s_4 : Int)), .own (enc (hand_3 : Nat)), .own (enc (letter_5 : Nat))]) (show 5 < 6 by decide) rfl)) (fun (letter_5 : Nat) (s_4 : Int) =>
  (rb_if (ρ1 := fun (s_6 : Unit) => [.own (enc (hands : Nat)), .own (enc (m : Nat)), .bor (enc (first : (Dct (Nat × Nat) Int))), .own (enc (s_4 : Int)), .own (enc (hand_3 : Nat)), .own (enc (letter_5 : Nat))]) (rt_val (re_dnin (i := 2) (d := (first : (Dct (Nat × Nat) Int))) (IsSl.b rfl) (re_pair (re_v (i := 4) (a := (hand_3 : Nat)) rfl) (re_v (i := 5) (a := (letter_5 : Nat)) rfl))))
  (rb_ret (re_vd3 (c := Vd.lacks) (fun _ _ => rfl) (re_v (i := 4) (a := (hand_3 : Nat)) rfl) (re_v (i := 5) (a := (letter_5 : Nat)) rfl)))
  (rb_end (s := (() : Unit)) ⟨.eq _, ⟨.eq _, ⟨.eq _, ⟨.eq _, ⟨.eq _, ⟨.eq _, trivial⟩⟩⟩⟩⟩⟩) (fun (s_6 : Unit) =>
  (rb_asg (ρ2 := fun (last_7 : Int) => [.own (enc (hands : Nat)), .own (enc (m : Nat)), .bor (enc (first : (Dct (Nat × Nat) Int))), .own (enc (last_7 : Int)), .own (enc (hand_3 : Nat)), .own (enc (letter_5 : Nat))]) (re_cb2 ow_maxZ (re_v (i := 3) (a := (s_4 : Int)) rfl) (re_dgetA (i := 2) (d := (first : (Dct (Nat × Nat) Int))) (IsSl.b rfl) (re_pair (re_v (i := 4) (a := (hand_3 : Nat)) rfl) (re_v (i := 5) (a := (letter_5 : Nat)) rfl)))) (fun (last_7 : Int) => rg_name (i := 3) (show 3 < 6 by decide) rfl) (fun (last_7 : Int) =>
  (rb_end (s := (last_7 : Int)) ⟨.eq _, ⟨.eq _, ⟨.eq _, ⟨.eq _, ⟨.eq _, ⟨.any _, trivial⟩⟩⟩⟩⟩⟩)))))) (fun (s_4 : Int) =>
  (rb_end (s := (s_4 : Int)) ⟨.eq _, ⟨.eq _, ⟨.eq _, ⟨.eq _, ⟨.any _, ⟨.any _, trivial⟩⟩⟩⟩⟩⟩)))) (fun (s_2 : Int) =>
  (rb_ret (re_vd2 (re_op ow_add (re_v (i := 3) (a := (s_2 : Int)) rfl) (re_ofN (re_nat 1)))))))))) (by rw [oucW_fn] at h; exact h)⟩
/-! ### wrong_teller -/
def wteB (beat : (List (T3 Nat Nat Nat))) (at_ : Nat) (first : (Dct (Nat × Nat) Int)) : M (Ctl (Option Nat) Unit Unit) :=
  (bindW (retW (⟨[]⟩ : (DcN Bool))) fun (hearing_1 : (DcN Bool)) =>
  (bindW (retW (beat : (List (T3 Nat Nat Nat)))) fun X_ => seqW (forW (fun (it_3 : (T3 Nat Nat Nat)) (s_2 : (DcN Bool)) =>
  (bindW (orW (b2W (retW (it_3.a : Nat)) (retW (it_3.b : Nat)) (fun a b : Nat => retW (decide (a = b)))) (bindW (retW (it_3.b : Nat)) fun k_ : Nat => retW ((kGet (s_2 : (DcN Bool)).l k_).isSome))) fun B_ => seqW (if B_ = true then (bindW (mapW some (retW (it_3.a : Nat))) fun r => retW (.ret r)) else (retW (.nxt (() : Unit)))) fun (s_4 : Unit) =>
  (bindW (b2W (b2W (b2W (retW (it_3.a : Nat)) (retW (it_3.c : Nat)) fun a b => retW (a, b)) (mapW (fun n : Nat => (n : Int)) (retW (at_ : Nat))) fun (k_ : (Nat × Nat)) (x_ : Int) => retW ((dGet (first : (Dct (Nat × Nat) Int)).l k_).getD x_)) (mapW (fun n : Nat => (n : Int)) (retW (at_ : Nat))) (fun a b : Int => retW (decide (b ≤ a)))) fun B_ => seqW (if B_ = true then (bindW (mapW some (retW (it_3.a : Nat))) fun r => retW (.ret r)) else (retW (.nxt (() : Unit)))) fun (s_5 : Unit) =>
  (b2W (retW true) (retW (it_3.b : Nat)) fun (v_6 : Bool) (k_7 : Nat) => reqW ((s_2 : (DcN Bool)).l.length < sizeLine)
  (retW (.nxt ((⟨kPut (s_2 : (DcN Bool)).l k_7 v_6⟩ : (DcN Bool)) : (DcN Bool)))))))) X_ (hearing_1 : (DcN Bool))) fun (s_2 : (DcN Bool)) =>
  (bindW (retW (none : (Option Nat))) fun r => retW (.ret r))))
theorem wteW_ex : ∃ g : (List (T3 Nat Nat Nat)) → Nat → (Dct (Nat × Nat) Int) → M (Option Nat), ∀ beat at_ first, g beat at_ first = outW (wteB beat at_ first) := ⟨fun beat at_ first => outW (wteB beat at_ first), fun _ _ _ => rfl⟩
/-- sealed -/
def wteW : (List (T3 Nat Nat Nat)) → Nat → (Dct (Nat × Nat) Int) → M (Option Nat) := Classical.choose wteW_ex
theorem wteW_eq (beat : (List (T3 Nat Nat Nat))) (at_ : Nat) (first : (Dct (Nat × Nat) Int)) : wteW beat at_ first = outW (wteB beat at_ first) := Classical.choose_spec wteW_ex beat at_ first
theorem wteW_fn : wteW = fun beat at_ first => outW (wteB beat at_ first) := funext fun beat => funext fun at_ => funext fun first => wteW_eq beat at_ first
theorem scWte : FnScope ["beat", "at", "first", "hearing", "teller", "hearer", "letter"] ["beat", "at", "first"] (defScope sWte) := ⟨rfl, rfl, rfl, by decide +kernel, rfl, by decide +kernel, by decide +kernel⟩
theorem ok_wte (F : Fun K "wrong_teller" "wrong_teller" sWte f fd) (b : Bls mg) : FnOk P w K mg base CX0 1 f fd ["beat", "at", "first"] (spW3 K T wteW) := by
  refine F.ok scWte (fun vs H Q E h => ?_) (fun cdv A outer s H vs Q E hr h => ?_)
  · exact spW3_len h
  · refine ⟨_, (pss_cons (ps_set (i := 3) scWte.nd rfl (.inl rfl) pe_dnewK)
      (pss_cons (ps_for PassesOwn.never rfl (pi_tup (pv 0)) (pg_tup (by rfl) (pgs_cons (pg_name (i := 4) scWte.nd rfl (Or.inl rfl)) (pgs_cons (pg_name (i := 5) scWte.nd rfl (Or.inl rfl)) (pgs_cons (pg_name (i := 6) scWte.nd rfl (Or.inl rfl)) pgs_nil))))
      (pss_cons (ps_if (PW.pt (pw_or (pt_cmpR op_eq (pv 4) (pv 5) (nomark _)) (pw_or1 (pt_cmp (pc_din (hu_of hr) (pv 5) (pv 3)))))) (pss_cons (ps_ret (pv 4))
      pss_nil) pss_nil)
      (pss_cons (ps_if (pt_cmpR op_ge (pe_dget2 (hu_of hr) (pv 2) (pe_tup (pa_cons (pv 4) (pa_cons (pv 6) pa_nil))) (pv 1) ⟨rfl, rfl, rfl, rfl⟩) (pv 1) (nomark _)) (pss_cons (ps_ret (pv 4))
      pss_nil) pss_nil)
      (pss_cons (ps_asg pe_bl (pg_sub (pv 3) (pv 5) (set_dict (hu_of hr))))
      pss_nil))))
      (pss_cons (ps_ret pe_non)
      pss_nil))), w3_run (N := ["beat", "at", "first", "hearing", "teller", "hearer", "letter"]) psl_own psl_own psl_bor (mB := wteB) (ρ := fun (beat : (List (T3 Nat Nat Nat))) (at_ : Nat) (first : (Dct (Nat × Nat) Int)) => [.own (enc (beat : (List (T3 Nat Nat Nat)))), .own (enc (at_ : Nat)), .bor (enc (first : (Dct (Nat × Nat) Int))), .any, .any, .any, .any]) (ρn := fun _ => []) (ρb := fun _ => []) (C := fun _ => True) (fun _ _ _ => rfl) trivial (fun (beat : (List (T3 Nat Nat Nat))) (at_ : Nat) (first : (Dct (Nat × Nat) Int)) => 
  (rb_asg (ρ2 := fun (hearing_1 : (DcN Bool)) => [.own (enc (beat : (List (T3 Nat Nat Nat)))), .own (enc (at_ : Nat)), .bor (enc (first : (Dct (Nat × Nat) Int))), .own (enc (hearing_1 : (DcN Bool))), .any, .any, .any]) (re_knew (β := Bool)) (fun (hearing_1 : (DcN Bool)) => rg_name (i := 3) (show 3 < 7 by decide) rfl) (fun (hearing_1 : (DcN Bool)) =>
  (rb_for (s0 := (hearing_1 : (DcN Bool))) (ρl := fun (s_2 : (DcN Bool)) => [.own (enc (beat : (List (T3 Nat Nat Nat)))), .own (enc (at_ : Nat)), .bor (enc (first : (Dct (Nat × Nat) Int))), .own (enc (s_2 : (DcN Bool))), .any, .any, .any]) (ρx := fun (it_3 : (T3 Nat Nat Nat)) (s_2 : (DcN Bool)) => [.own (enc (beat : (List (T3 Nat Nat Nat)))), .own (enc (at_ : Nat)), .bor (enc (first : (Dct (Nat × Nat) Int))), .own (enc (s_2 : (DcN Bool))), .own (enc (it_3.a : Nat)), .own (enc (it_3.b : Nat)), .own (enc (it_3.c : Nat))]) (ri_tup (re_v (i := 0) (a := (beat : (List (T3 Nat Nat Nat)))) rfl)) ⟨.eq _, ⟨.eq _, ⟨.eq _, ⟨.eq _, ⟨.any _, ⟨.any _, ⟨.any _, trivial⟩⟩⟩⟩⟩⟩⟩ (fun (it_3 : (T3 Nat Nat Nat)) (s_2 : (DcN Bool)) => (rg_three (i := 4) (j := 5) (k := 6) (ρ1 := [.own (enc (beat : (List (T3 Nat Nat Nat)))), .own (enc (at_ : Nat)), .bor (enc (first : (Dct (Nat × Nat) Int))), .own (enc (s_2 : (DcN Bool))), .own (enc (it_3.a : Nat)), .any, .any]) (ρ2 := [.own (enc (beat : (List (T3 Nat Nat Nat)))), .own (enc (at_ : Nat)), .bor (enc (first : (Dct (Nat × Nat) Int))), .own (enc (s_2 : (DcN Bool))), .own (enc (it_3.a : Nat)), .own (enc (it_3.b : Nat)), .any]) (ρ' := [.own (enc (beat : (List (T3 Nat Nat Nat)))), .own (enc (at_ : Nat)), .bor (enc (first : (Dct (Nat × Nat) Int))), .own (enc (s_2 : (DcN Bool))), .own (enc (it_3.a : Nat)), .own (enc (it_3.b : Nat)), .own (enc (it_3.c : Nat))]) (show 4 < 7 by decide) (show 5 < 7 by decide) (show 6 < 7 by decide) (by decide) (by decide) (by decide) rfl rfl rfl)) (fun (it_3 : (T3 Nat Nat Nat)) (s_2 : (DcN Bool)) =>
  (rb_if (ρ1 := fun (s_4 : Unit) => [.own (enc (beat : (List (T3 Nat Nat Nat)))), .own (enc (at_ : Nat)), .bor (enc (first : (Dct (Nat × Nat) Int))), .own (enc (s_2 : (DcN Bool))), .own (enc (it_3.a : Nat)), .own (enc (it_3.b : Nat)), .own (enc (it_3.c : Nat))]) (rt_or (rt_test (re_op ow_eqN (re_v (i := 4) (a := (it_3.a : Nat)) rfl) (re_v (i := 5) (a := (it_3.b : Nat)) rfl))) (rt_val (re_kin (i := 3) (d := (s_2 : (DcN Bool))) (IsSl.o rfl) (re_v (i := 5) (a := (it_3.b : Nat)) rfl))))
  (rb_ret (re_some (re_v (i := 4) (a := (it_3.a : Nat)) rfl)))
  (rb_end (s := (() : Unit)) ⟨.eq _, ⟨.eq _, ⟨.eq _, ⟨.eq _, ⟨.eq _, ⟨.eq _, ⟨.eq _, trivial⟩⟩⟩⟩⟩⟩⟩) (fun (s_4 : Unit) =>
  (rb_if (ρ1 := fun (s_5 : Unit) => [.own (enc (beat : (List (T3 Nat Nat Nat)))), .own (enc (at_ : Nat)), .bor (enc (first : (Dct (Nat × Nat) Int))), .own (enc (s_2 : (DcN Bool))), .own (enc (it_3.a : Nat)), .own (enc (it_3.b : Nat)), .own (enc (it_3.c : Nat))]) (rt_test (re_op ow_ge (re_dget2 (i := 2) (d := (first : (Dct (Nat × Nat) Int))) (IsSl.b rfl) (re_pair (re_v (i := 4) (a := (it_3.a : Nat)) rfl) (re_v (i := 6) (a := (it_3.c : Nat)) rfl)) (re_ofN (re_v (i := 1) (a := (at_ : Nat)) rfl))) (re_ofN (re_v (i := 1) (a := (at_ : Nat)) rfl))))
  (rb_ret (re_some (re_v (i := 4) (a := (it_3.a : Nat)) rfl)))
  (rb_end (s := (() : Unit)) ⟨.eq _, ⟨.eq _, ⟨.eq _, ⟨.eq _, ⟨.eq _, ⟨.eq _, ⟨.eq _, trivial⟩⟩⟩⟩⟩⟩⟩) (fun (s_5 : Unit) =>
  (rb_kput (i := 3) (d := (s_2 : (DcN Bool))) (ρ2 := fun (v_6 : Bool) (k_7 : Nat) => [.own (enc (beat : (List (T3 Nat Nat Nat)))), .own (enc (at_ : Nat)), .bor (enc (first : (Dct (Nat × Nat) Int))), .own (enc ((⟨kPut (s_2 : (DcN Bool)).l k_7 v_6⟩ : (DcN Bool)) : (DcN Bool))), .own (enc (it_3.a : Nat)), .own (enc (it_3.b : Nat)), .own (enc (it_3.c : Nat))]) rfl (re_bool true) (re_v (i := 5) (a := (it_3.b : Nat)) rfl) (fun _ _ => rfl) (fun (v_6 : Bool) (k_7 : Nat) =>
  (rb_end (s := ((⟨kPut (s_2 : (DcN Bool)).l k_7 v_6⟩ : (DcN Bool)) : (DcN Bool))) ⟨.eq _, ⟨.eq _, ⟨.eq _, ⟨.eq _, ⟨.any _, ⟨.any _, ⟨.any _, trivial⟩⟩⟩⟩⟩⟩⟩)))))))) (fun (s_2 : (DcN Bool)) =>
  (rb_ret (re_none (α := Nat)))))))) (by rw [wteW_fn] at h; exact h)⟩
/-! ### judged -/
def judB (hands : Nat) (m : Nat) (plan : (List (List (T3 Nat Nat Nat)))) (source : Nat) : M (Ctl Vd Unit Unit) :=
  (bindW (bindW (bindW (retW (m : Nat)) fun k => reqW (k < 4611686018427387904) (retW (List.range k))) fun X_ => reqW (X_.length ≤ sizeLine) (dcW (fun (letter_1 : Nat) => (retW true)) (fun (letter_1 : Nat) => (b2W (retW (source : Nat)) (retW (letter_1 : Nat)) fun a b => retW (a, b))) (fun (letter_1 : Nat) => (mapW (fun z : Int => -z) (retW (1 : Int)))) X_ [])) fun (first_2 : (Dct (Nat × Nat) Int)) =>
  (bindW (mapW enW (retW (plan : (List (List (T3 Nat Nat Nat)))))) fun X_ => seqW (forW (fun (it_4 : (Nat × (List (T3 Nat Nat Nat)))) (s_3 : (Dct (Nat × Nat) Int)) =>
  (bindW (c3W (retW (it_4.2 : (List (T3 Nat Nat Nat)))) (retW (it_4.1 : Nat)) (retW (s_3 : (Dct (Nat × Nat) Int))) fun A_1 A_2 A_3 => pureW (wteW A_1 A_2 A_3)) fun (teller_5 : (Option Nat)) =>
  (bindW (bindW (retW (teller_5 : (Option Nat))) fun x : (Option Nat) => retW (!x.isNone)) fun B_ => seqW (if B_ = true then (bindW (b2W (retW (it_4.1 : Nat)) (getW (retW (teller_5 : (Option Nat)))) fun a b => retW (Vd.wrong a b)) fun r => retW (.ret r)) else (retW (.nxt (() : Unit)))) fun (s_6 : Unit) =>
  (bindW (retW (it_4.2 : (List (T3 Nat Nat Nat)))) fun X_ => seqW (forW (fun (telling_8 : (T3 Nat Nat Nat)) (s_7 : (Dct (Nat × Nat) Int)) =>
  (b2W (mapW (fun x : (T3 Nat Nat Nat) => (x.b, x.c)) (retW (telling_8 : (T3 Nat Nat Nat)))) (mapW (fun n : Nat => (n : Int)) (retW (it_4.1 : Nat))) fun (k_9 : (Nat × Nat)) (v_10 : Int) => reqW ((s_7 : (Dct (Nat × Nat) Int)).l.length < sizeLine)
  (retW (.nxt ((⟨dSet (s_7 : (Dct (Nat × Nat) Int)).l k_9 v_10⟩ : (Dct (Nat × Nat) Int)) : (Dct (Nat × Nat) Int)))))) X_ (s_3 : (Dct (Nat × Nat) Int))) fun (s_7 : (Dct (Nat × Nat) Int)) =>
  (retW (.nxt (s_7 : (Dct (Nat × Nat) Int)))))))) X_ (first_2 : (Dct (Nat × Nat) Int))) fun (s_3 : (Dct (Nat × Nat) Int)) =>
  (bindW (c3W (retW (hands : Nat)) (retW (m : Nat)) (retW (s_3 : (Dct (Nat × Nat) Int))) fun A_1 A_2 A_3 => pureW (oucW A_1 A_2 A_3)) fun r => retW (.ret r))))
theorem judW_ex : ∃ g : Nat → Nat → (List (List (T3 Nat Nat Nat))) → Nat → M Vd, ∀ hands m plan source, g hands m plan source = outW (judB hands m plan source) := ⟨fun hands m plan source => outW (judB hands m plan source), fun _ _ _ _ => rfl⟩
/-- sealed -/
def judW : Nat → Nat → (List (List (T3 Nat Nat Nat))) → Nat → M Vd := Classical.choose judW_ex
theorem judW_eq (hands : Nat) (m : Nat) (plan : (List (List (T3 Nat Nat Nat)))) (source : Nat) : judW hands m plan source = outW (judB hands m plan source) := Classical.choose_spec judW_ex hands m plan source
theorem judW_fn : judW = fun hands m plan source => outW (judB hands m plan source) := funext fun hands => funext fun m => funext fun plan => funext fun source => judW_eq hands m plan source
theorem scJud : FnScope ["hands", "m", "plan", "source", "first", "at", "beat", "teller", "telling", "letter"] ["hands", "m", "plan", "source"] (defScope sJud) := ⟨rfl, rfl, rfl, by decide +kernel, rfl, by decide +kernel, by decide +kernel⟩
theorem ok_jud {f_ouc f_wte : Addr} {d_ouc d_wte : FuncData} (F : FunS K "judged" sJud f fd) (b : Bls mg) (c_ouc : CalF P w K mg base 1 "outcome" f_ouc d_ouc ["hands", "m", "first"] (spW3 K T oucW)) (c_wte : CalF P w K mg base 1 "wrong_teller" f_wte d_wte ["beat", "at", "first"] (spW3 K T wteW)) : FnOk P w K mg base CX0 2 f fd ["hands", "m", "plan", "source"] (spW4 K T judW) := by
  refine F.go scJud (fun vs H Q E h => ?_) (fun cdv A outer s H vs Q E hr h => ?_)
  · exact spW4_len h
  · refine ⟨_, (pss_cons (ps_setDcT (i := 4) (hu_of hr) (own := [("letter", 9)]) (g := (gName 9)) (tt := tYes) (tk := (tTup (tCons (tVar 3) (tCons (tVar 9) tNil)))) (tv := (tUn (rU fun i => .int (-i)) (tC (.int 1)))) (by rfl) scJud.nd rfl (by rfl) (by rfl) (pi_range1 (by rfl) b.range (pa_cons (pv 1) pa_nil)) (blkOk_by (own := [("letter", 9)]) (N := ["hands", "m", "plan", "source", "first", "at", "beat", "teller", "telling", "letter"]) (sc := defScope sJud) (by decide +kernel)) (fun _ _ _ _ _ => (pg_name (i := 9) scJud.nd rfl (Or.inl rfl))) (fun _ _ _ _ _ => pts_nil) (fun _ _ _ _ _ => (pe_tup (pa_cons (pv 3) (pa_cons (pv 9) pa_nil)))) (fun _ _ _ _ _ => (pe_un un_neg pe_int)))
      (pss_cons (ps_for PassesOwn.never rfl (pi_enT (by rfl) b.enumerate (pa_cons (pv 2) pa_nil)) (pg_tup (by rfl) (pgs_cons (pg_name (i := 5) scJud.nd rfl (Or.inl rfl)) (pgs_cons (pg_name (i := 6) scJud.nd rfl (Or.inl rfl)) pgs_nil)))
      (pss_cons (ps_set (i := 7) scJud.nd rfl (.inl rfl) (pe_call c_wte.G (hr.mono (by decide)) (by rfl) c_wte.g c_wte.kp c_wte.b .nil pass0 (pa_cons (pv 6) (pa_cons (pv 5) (pa_cons (pv 4) pa_nil)))))
      (pss_cons (ps_if (pt_cmp (pc_notN (pv 7))) (pss_cons (ps_ret (pe_tup (pa_cons pe_str (pa_cons (pv 5) (pa_cons (pv 7) pa_nil)))))
      pss_nil) pss_nil)
      (pss_cons (ps_for PassesOwn.never rfl (pi_tup (pv 6)) (pg_name (i := 8) scJud.nd rfl (Or.inl rfl))
      (pss_cons (ps_expr (pe_setdT (hu_of hr) (pv 4) (pe_slice sl_tupA (pv 8) (po_some pe_int) po_none) (pv 5) ⟨rfl, rfl, rfl, rfl⟩))
      pss_nil))
      pss_nil))))
      (pss_cons (ps_ret (pe_call c_ouc.G (hr.mono (by decide)) (by rfl) c_ouc.g c_ouc.kp c_ouc.b .nil pass0 (pa_cons (pv 0) (pa_cons (pv 1) (pa_cons (pv 4) pa_nil)))))
      pss_nil))), w4_run (N := ["hands", "m", "plan", "source", "first", "at", "beat", "teller", "telling", "letter"]) psl_own psl_own psl_own psl_own (mB := judB) (ρ := fun (hands : Nat) (m : Nat) (plan : (List (List (T3 Nat Nat Nat)))) (source : Nat) => [.own (enc (hands : Nat)), .own (enc (m : Nat)), .own (enc (plan : (List (List (T3 Nat Nat Nat))))), .own (enc (source : Nat)), .any, .any, .any, .any, .any, .any]) (ρn := fun _ => []) (ρb := fun _ => []) (C := fun _ => True) (fun _ _ _ _ => rfl) trivial (fun (hands : Nat) (m : Nat) (plan : (List (List (T3 Nat Nat Nat)))) (source : Nat) => 
  (rb_asg (ρ2 := fun (first_2 : (Dct (Nat × Nat) Int)) => [.own (enc (hands : Nat)), .own (enc (m : Nat)), .own (enc (plan : (List (List (T3 Nat Nat Nat))))), .own (enc (source : Nat)), .own (enc (first_2 : (Dct (Nat × Nat) Int))), .any, .any, .any, .any, .any]) (re_dcT (vs := [9]) (ρw := [.own (enc (hands : Nat)), .own (enc (m : Nat)), .own (enc (plan : (List (List (T3 Nat Nat Nat))))), .own (enc (source : Nat)), .any, .any, .any, .any, .any, .any]) (ρx := fun (letter_1 : Nat) => [.own (enc (hands : Nat)), .own (enc (m : Nat)), .own (enc (plan : (List (List (T3 Nat Nat Nat))))), .own (enc (source : Nat)), .any, .any, .any, .any, .any, .own (enc (letter_1 : Nat))]) rfl (ri_range (re_v (i := 1) (a := (m : Nat)) rfl)) (by decide) (fun (letter_1 : Nat) => (rg_name (i := 9) (ρ' := [.own (enc (hands : Nat)), .own (enc (m : Nat)), .own (enc (plan : (List (List (T3 Nat Nat Nat))))), .own (enc (source : Nat)), .any, .any, .any, .any, .any, .own (enc (letter_1 : Nat))]) (show 9 < 10 by decide) rfl)) (fun (letter_1 : Nat) => rt_yes) (fun (letter_1 : Nat) => (re_pair (re_v (i := 3) (a := (source : Nat)) rfl) (re_v (i := 9) (a := (letter_1 : Nat)) rfl))) (fun (letter_1 : Nat) => (re_neg (re_int 1)))) (fun (first_2 : (Dct (Nat × Nat) Int)) => rg_name (i := 4) (show 4 < 10 by decide) rfl) (fun (first_2 : (Dct (Nat × Nat) Int)) =>
  (rb_for (s0 := (first_2 : (Dct (Nat × Nat) Int))) (ρl := fun (s_3 : (Dct (Nat × Nat) Int)) => [.own (enc (hands : Nat)), .own (enc (m : Nat)), .own (enc (plan : (List (List (T3 Nat Nat Nat))))), .own (enc (source : Nat)), .own (enc (s_3 : (Dct (Nat × Nat) Int))), .any, .any, .any, .any, .any]) (ρx := fun (it_4 : (Nat × (List (T3 Nat Nat Nat)))) (s_3 : (Dct (Nat × Nat) Int)) => [.own (enc (hands : Nat)), .own (enc (m : Nat)), .own (enc (plan : (List (List (T3 Nat Nat Nat))))), .own (enc (source : Nat)), .own (enc (s_3 : (Dct (Nat × Nat) Int))), .own (enc (it_4.1 : Nat)), .own (enc (it_4.2 : (List (T3 Nat Nat Nat)))), .any, .any, .any]) (ri_enT (re_v (i := 2) (a := (plan : (List (List (T3 Nat Nat Nat))))) rfl)) ⟨.eq _, ⟨.eq _, ⟨.eq _, ⟨.eq _, ⟨.eq _, ⟨.any _, ⟨.any _, ⟨.any _, ⟨.any _, ⟨.any _, trivial⟩⟩⟩⟩⟩⟩⟩⟩⟩⟩ (fun (it_4 : (Nat × (List (T3 Nat Nat Nat)))) (s_3 : (Dct (Nat × Nat) Int)) => (rg_two (i := 5) (j := 6) (ρ1 := [.own (enc (hands : Nat)), .own (enc (m : Nat)), .own (enc (plan : (List (List (T3 Nat Nat Nat))))), .own (enc (source : Nat)), .own (enc (s_3 : (Dct (Nat × Nat) Int))), .own (enc (it_4.1 : Nat)), .any, .any, .any, .any]) (ρ' := [.own (enc (hands : Nat)), .own (enc (m : Nat)), .own (enc (plan : (List (List (T3 Nat Nat Nat))))), .own (enc (source : Nat)), .own (enc (s_3 : (Dct (Nat × Nat) Int))), .own (enc (it_4.1 : Nat)), .own (enc (it_4.2 : (List (T3 Nat Nat Nat)))), .any, .any, .any]) (show 5 < 10 by decide) (show 6 < 10 by decide) (by decide) rfl rfl)) (fun (it_4 : (Nat × (List (T3 Nat Nat Nat)))) (s_3 : (Dct (Nat × Nat) Int)) =>
  (rb_asg (ρ2 := fun (teller_5 : (Option Nat)) => [.own (enc (hands : Nat)), .own (enc (m : Nat)), .own (enc (plan : (List (List (T3 Nat Nat Nat))))), .own (enc (source : Nat)), .own (enc (s_3 : (Dct (Nat × Nat) Int))), .own (enc (it_4.1 : Nat)), .own (enc (it_4.2 : (List (T3 Nat Nat Nat)))), .own (enc (teller_5 : (Option Nat))), .any, .any]) (re_call3 (re_v (i := 6) (a := (it_4.2 : (List (T3 Nat Nat Nat)))) rfl) (re_v (i := 5) (a := (it_4.1 : Nat)) rfl) (re_own (i := 4) (a := (s_3 : (Dct (Nat × Nat) Int))) rfl)) (fun (teller_5 : (Option Nat)) => rg_name (i := 7) (show 7 < 10 by decide) rfl) (fun (teller_5 : (Option Nat)) =>
  (rb_if (ρ1 := fun (s_6 : Unit) => [.own (enc (hands : Nat)), .own (enc (m : Nat)), .own (enc (plan : (List (List (T3 Nat Nat Nat))))), .own (enc (source : Nat)), .own (enc (s_3 : (Dct (Nat × Nat) Int))), .own (enc (it_4.1 : Nat)), .own (enc (it_4.2 : (List (T3 Nat Nat Nat)))), .own (enc (teller_5 : (Option Nat))), .any, .any]) (rt_val (re_un (ta := (tVar 7)) (t := tNotN (tVar 7)) (fun _ _ _ h => h) uw_notN (re_v (i := 7) (a := (teller_5 : (Option Nat))) rfl)))
  (rb_ret (re_vd3 (c := Vd.wrong) (fun _ _ => rfl) (re_v (i := 5) (a := (it_4.1 : Nat)) rfl) (re_getW (re_v (i := 7) (a := (teller_5 : (Option Nat))) rfl))))
  (rb_end (s := (() : Unit)) ⟨.eq _, ⟨.eq _, ⟨.eq _, ⟨.eq _, ⟨.eq _, ⟨.eq _, ⟨.eq _, ⟨.eq _, ⟨.any _, ⟨.any _, trivial⟩⟩⟩⟩⟩⟩⟩⟩⟩⟩) (fun (s_6 : Unit) =>
  (rb_for (s0 := (s_3 : (Dct (Nat × Nat) Int))) (ρl := fun (s_7 : (Dct (Nat × Nat) Int)) => [.own (enc (hands : Nat)), .own (enc (m : Nat)), .own (enc (plan : (List (List (T3 Nat Nat Nat))))), .own (enc (source : Nat)), .own (enc (s_7 : (Dct (Nat × Nat) Int))), .own (enc (it_4.1 : Nat)), .own (enc (it_4.2 : (List (T3 Nat Nat Nat)))), .own (enc (teller_5 : (Option Nat))), .any, .any]) (ρx := fun (telling_8 : (T3 Nat Nat Nat)) (s_7 : (Dct (Nat × Nat) Int)) => [.own (enc (hands : Nat)), .own (enc (m : Nat)), .own (enc (plan : (List (List (T3 Nat Nat Nat))))), .own (enc (source : Nat)), .own (enc (s_7 : (Dct (Nat × Nat) Int))), .own (enc (it_4.1 : Nat)), .own (enc (it_4.2 : (List (T3 Nat Nat Nat)))), .own (enc (teller_5 : (Option Nat))), .own (enc (telling_8 : (T3 Nat Nat Nat))), .any]) (ri_tup (re_v (i := 6) (a := (it_4.2 : (List (T3 Nat Nat Nat)))) rfl)) ⟨.eq _, ⟨.eq _, ⟨.eq _, ⟨.eq _, ⟨.eq _, ⟨.eq _, ⟨.eq _, ⟨.eq _, ⟨.any _, ⟨.any _, trivial⟩⟩⟩⟩⟩⟩⟩⟩⟩⟩ (fun (telling_8 : (T3 Nat Nat Nat)) (s_7 : (Dct (Nat × Nat) Int)) => (rg_name (i := 8) (ρ' := [.own (enc (hands : Nat)), .own (enc (m : Nat)), .own (enc (plan : (List (List (T3 Nat Nat Nat))))), .own (enc (source : Nat)), .own (enc (s_7 : (Dct (Nat × Nat) Int))), .own (enc (it_4.1 : Nat)), .own (enc (it_4.2 : (List (T3 Nat Nat Nat)))), .own (enc (teller_5 : (Option Nat))), .own (enc (telling_8 : (T3 Nat Nat Nat))), .any]) (show 8 < 10 by decide) rfl)) (fun (telling_8 : (T3 Nat Nat Nat)) (s_7 : (Dct (Nat × Nat) Int)) =>
  (rb_setd (i := 4) (d := (s_7 : (Dct (Nat × Nat) Int))) (ρ2 := fun (k_9 : (Nat × Nat)) (v_10 : Int) => [.own (enc (hands : Nat)), .own (enc (m : Nat)), .own (enc (plan : (List (List (T3 Nat Nat Nat))))), .own (enc (source : Nat)), .own (enc ((⟨dSet (s_7 : (Dct (Nat × Nat) Int)).l k_9 v_10⟩ : (Dct (Nat × Nat) Int)) : (Dct (Nat × Nat) Int))), .own (enc (it_4.1 : Nat)), .own (enc (it_4.2 : (List (T3 Nat Nat Nat)))), .own (enc (teller_5 : (Option Nat))), .own (enc (telling_8 : (T3 Nat Nat Nat))), .any]) rfl (re_t3sl (re_v (i := 8) (a := (telling_8 : (T3 Nat Nat Nat))) rfl)) (re_ofN (re_v (i := 5) (a := (it_4.1 : Nat)) rfl)) (fun _ _ => rfl) (fun (k_9 : (Nat × Nat)) (v_10 : Int) =>
  (rb_end (s := ((⟨dSet (s_7 : (Dct (Nat × Nat) Int)).l k_9 v_10⟩ : (Dct (Nat × Nat) Int)) : (Dct (Nat × Nat) Int))) ⟨.eq _, ⟨.eq _, ⟨.eq _, ⟨.eq _, ⟨.eq _, ⟨.eq _, ⟨.eq _, ⟨.eq _, ⟨.any _, ⟨.any _, trivial⟩⟩⟩⟩⟩⟩⟩⟩⟩⟩)))) (fun (s_7 : (Dct (Nat × Nat) Int)) =>
  (rb_end (s := (s_7 : (Dct (Nat × Nat) Int))) ⟨.eq _, ⟨.eq _, ⟨.eq _, ⟨.eq _, ⟨.eq _, ⟨.any _, ⟨.any _, ⟨.any _, ⟨.any _, ⟨.any _, trivial⟩⟩⟩⟩⟩⟩⟩⟩⟩⟩)))))))) (fun (s_3 : (Dct (Nat × Nat) Int)) =>
  (rb_ret (re_call3 (re_v (i := 0) (a := (hands : Nat)) rfl) (re_v (i := 1) (a := (m : Nat)) rfl) (re_own (i := 4) (a := (s_3 : (Dct (Nat × Nat) Int))) rfl)))))))) (by rw [judW_fn] at h; exact h)⟩
/-! ### bound -/
def bouB (hands : Nat) (m : Nat) : M (Ctl Nat Unit Unit) :=
  (bindW (b2W (b2W (retW (m : Nat)) (retW (1 : Nat)) (fun a b : Nat => reqW (b ≤ a) (retW (a - b)))) (mapW lnF (b2W (retW (hands : Nat)) (retW (1 : Nat)) (fun a b : Nat => reqW (b ≤ a) (retW (a - b))))) (fun a b : Nat => retW (a + b))) fun r => retW (.ret r))
theorem bouW_ex : ∃ g : Nat → Nat → M Nat, ∀ hands m, g hands m = outW (bouB hands m) := ⟨fun hands m => outW (bouB hands m), fun _ _ => rfl⟩
/-- sealed -/
def bouW : Nat → Nat → M Nat := Classical.choose bouW_ex
theorem bouW_eq (hands : Nat) (m : Nat) : bouW hands m = outW (bouB hands m) := Classical.choose_spec bouW_ex hands m
theorem bouW_fn : bouW = fun hands m => outW (bouB hands m) := funext fun hands => funext fun m => bouW_eq hands m
theorem scBou : FnScope ["hands", "m"] ["hands", "m"] (defScope sBou) := ⟨rfl, rfl, rfl, by decide +kernel, rfl, by decide +kernel, by decide +kernel⟩
theorem ok_bou (F : Fun K "bound" "bound" sBou f fd) (b : Bls mg) : FnOk P w K mg base CX0 1 f fd ["hands", "m"] (spW2 K T bouW) := by
  refine F.ok scBou (fun vs H Q E h => ?_) (fun cdv A outer s H vs Q E hr h => ?_)
  · exact spW2_len h
  · refine ⟨_, (pss_cons (ps_ret (pe_op op_addN (pe_op op_subN (pv 1) pe_int) (pe_bits (pe_op op_subN (pv 0) pe_int))))
      pss_nil), w2_run (N := ["hands", "m"]) psl_own psl_own (mB := bouB) (ρ := fun (hands : Nat) (m : Nat) => [.own (enc (hands : Nat)), .own (enc (m : Nat))]) (ρn := fun _ => []) (ρb := fun _ => []) (C := fun _ => True) (fun _ _ => rfl) trivial (fun (hands : Nat) (m : Nat) => 
  (rb_ret (re_op ow_addN (re_op ow_subN (re_v (i := 1) (a := (m : Nat)) rfl) (re_nat 1)) (re_bits (re_op ow_subN (re_v (i := 0) (a := (hands : Nat)) rfl) (re_nat 1)))))) (by rw [bouW_fn] at h; exact h)⟩
/-! ### _law_two -/
def twoB (k : Nat) : M (Ctl Nat Unit Unit) :=
  (bindW (b2W (bindW (b2W (retW (1 : Nat)) (b2W (retW (2 : Nat)) (b2W (retW (4 : Nat)) (b2W (retW (8 : Nat)) (b2W (retW (16 : Nat)) (b2W (retW (32 : Nat)) (b2W (retW (64 : Nat)) (retW ([] : List Nat)) fun a as => retW (a :: as)) fun a as => retW (a :: as)) fun a as => retW (a :: as)) fun a as => retW (a :: as)) fun a as => retW (a :: as)) fun a as => retW (a :: as)) fun a as => retW (a :: as)) fun xs => reqW (xs.length ≤ sizeLine) (retW (⟨xs⟩ : Lst Nat))) (retW (k : Nat)) fun (xs : (Lst Nat)) (i : Nat) n P => ∃ a, xs.l[i]? = some a ∧ P a n) fun r => retW (.ret r))
theorem twoW_ex : ∃ g : Nat → M Nat, ∀ k, g k = outW (twoB k) := ⟨fun k => outW (twoB k), fun _ => rfl⟩
/-- sealed -/
def twoW : Nat → M Nat := Classical.choose twoW_ex
theorem twoW_eq (k : Nat) : twoW k = outW (twoB k) := Classical.choose_spec twoW_ex k
theorem twoW_fn : twoW = fun k => outW (twoB k) := funext fun k => twoW_eq k
theorem scTwo : FnScope ["_law_k"] ["_law_k"] (defScope sTwo) := ⟨rfl, rfl, rfl, by decide +kernel, rfl, by decide +kernel, by decide +kernel⟩
theorem ok_two (F : Fun K "_law_two" "_law_two" sTwo f fd) (b : Bls mg) : FnOk P w K mg base CX0 1 f fd ["_law_k"] (spW1 K T twoW) := by
  refine F.ok scTwo (fun vs H Q E h => ?_) (fun cdv A outer s H vs Q E hr h => ?_)
  · exact spW1_len h
  · refine ⟨_, (pss_cons (ps_ret (pe_ix ix_list (pe_lst (pa_cons pe_int (pa_cons pe_int (pa_cons pe_int (pa_cons pe_int (pa_cons pe_int (pa_cons pe_int (pa_cons pe_int pa_nil)))))))) (pv 0) (fun _ _ => rfl)))
      pss_nil), w1_run (N := ["_law_k"]) psl_own (mB := twoB) (ρ := fun (k : Nat) => [.own (enc (k : Nat))]) (ρn := fun _ => []) (ρb := fun _ => []) (C := fun _ => True) (fun _ => rfl) trivial (fun (k : Nat) => 
  (rb_ret (re_op ow_ixLN (re_lst (ras_cons (re_nat 1) (ras_cons (re_nat 2) (ras_cons (re_nat 4) (ras_cons (re_nat 8) (ras_cons (re_nat 16) (ras_cons (re_nat 32) (ras_cons (re_nat 64) ras_nil)))))))) (re_v (i := 0) (a := (k : Nat)) rfl)))) (by rw [twoW_fn] at h; exact h)⟩
end
end Bf
namespace Bf
open PySem PySem.Spec PyProof.Rows L2 LamX NdefX
noncomputable section
variable {P : Program} {w : World} {K : PySem.W.Frag} {mg : Str → Option Value} {base : Heap} {f : Addr} {fd : FuncData} {k : Nat} {T : List (Addr × Str)}
/-! ### _law_doublings -/
def dblB (size : Nat) : M (Ctl Nat Unit Unit) :=
  (bindW (b2W (retW (0 : Nat)) (retW (1 : Nat)) fun a b => retW (a, b)) fun (p_1 : (Nat × Nat)) =>
  (seqW (whileW (fun (s_2 : (Nat × Nat)) => (b2W (retW (s_2.2 : Nat)) (retW (size : Nat)) (fun a b : Nat => retW (decide (a < b))))) (fun (s_2 : (Nat × Nat)) =>
  (b2W (b2W (retW (s_2.1 : Nat)) (retW (1 : Nat)) (fun a b : Nat => retW (a + b))) (b2W (retW (s_2.2 : Nat)) (retW (s_2.2 : Nat)) (fun a b : Nat => retW (a + b))) fun (found_3 : Nat) (at_4 : Nat) =>
  (retW (.nxt ((found_3, at_4) : (Nat × Nat)))))) ((p_1.1, p_1.2) : (Nat × Nat))) fun (s_2 : (Nat × Nat)) =>
  (bindW (retW (s_2.1 : Nat)) fun r => retW (.ret r))))
theorem dblW_ex : ∃ g : Nat → M Nat, ∀ size, g size = outW (dblB size) := ⟨fun size => outW (dblB size), fun _ => rfl⟩
/-- sealed -/
def dblW : Nat → M Nat := Classical.choose dblW_ex
theorem dblW_eq (size : Nat) : dblW size = outW (dblB size) := Classical.choose_spec dblW_ex size
theorem dblW_fn : dblW = fun size => outW (dblB size) := funext fun size => dblW_eq size
theorem scDbl : FnScope ["_law_size", "_law_found", "_law_at"] ["_law_size"] (defScope sDbl) := ⟨rfl, rfl, rfl, by decide +kernel, rfl, by decide +kernel, by decide +kernel⟩
theorem ok_dbl (F : Fun K "_law_doublings" "_law_doublings" sDbl f fd) (b : Bls mg) : FnOk P w K mg base CX0 1 f fd ["_law_size"] (spW1 K T dblW) := by
  refine F.ok scDbl (fun vs H Q E h => ?_) (fun cdv A outer s H vs Q E hr h => ?_)
  · exact spW1_len h
  · refine ⟨_, (pss_cons (ps_asg (pe_tup (pa_cons pe_int (pa_cons pe_int pa_nil))) (pg_tup (by rfl) (pgs_cons (pg_name (i := 1) scDbl.nd rfl (Or.inl rfl)) (pgs_cons (pg_name (i := 2) scDbl.nd rfl (Or.inl rfl)) pgs_nil))))
      (pss_cons (ps_while PassesOwn.never (pt_cmpR op_lt (pv 2) (pv 0) (nomark _))
      (pss_cons (ps_par (i := 1) (j := 2) (by rfl) scDbl.nd rfl rfl (by decide) rfl rfl (pa_cons (pe_op op_addN (pv 1) pe_int) (pa_cons (pe_op op_addN (pv 2) (pv 2)) pa_nil)) (by rfl))
      pss_nil))
      (pss_cons (ps_ret (pv 1))
      pss_nil))), w1_run (N := ["_law_size", "_law_found", "_law_at"]) psl_own (mB := dblB) (ρ := fun (size : Nat) => [.own (enc (size : Nat)), .any, .any]) (ρn := fun _ => []) (ρb := fun _ => []) (C := fun _ => True) (fun _ => rfl) trivial (fun (size : Nat) => 
  (rb_asg (ρ2 := fun (p_1 : (Nat × Nat)) => [.own (enc (size : Nat)), .own (enc (p_1.1 : Nat)), .own (enc (p_1.2 : Nat))]) (re_pair (re_nat 0) (re_nat 1)) (fun (p_1 : (Nat × Nat)) => (rg_two (i := 1) (j := 2) (ρ1 := [.own (enc (size : Nat)), .own (enc (p_1.1 : Nat)), .any]) (ρ' := [.own (enc (size : Nat)), .own (enc (p_1.1 : Nat)), .own (enc (p_1.2 : Nat))]) (show 1 < 3 by decide) (show 2 < 3 by decide) (by decide) rfl rfl)) (fun (p_1 : (Nat × Nat)) =>
  (rb_while (s0 := ((p_1.1, p_1.2) : (Nat × Nat))) (ρl := fun (s_2 : (Nat × Nat)) => [.own (enc (size : Nat)), .own (enc (s_2.1 : Nat)), .own (enc (s_2.2 : Nat))]) ⟨.eq _, ⟨.eq _, ⟨.eq _, trivial⟩⟩⟩ (fun (s_2 : (Nat × Nat)) => (rt_test (re_op ow_ltN (re_v (i := 2) (a := (s_2.2 : Nat)) rfl) (re_v (i := 0) (a := (size : Nat)) rfl)))) (fun (s_2 : (Nat × Nat)) =>
  (rb_par (ρ2 := fun (found_3 : Nat) (at_4 : Nat) => [.own (enc (size : Nat)), .own (enc (found_3 : Nat)), .own (enc (at_4 : Nat))]) (re_op ow_addN (re_v (i := 1) (a := (s_2.1 : Nat)) rfl) (re_nat 1)) (re_op ow_addN (re_v (i := 2) (a := (s_2.2 : Nat)) rfl) (re_v (i := 2) (a := (s_2.2 : Nat)) rfl)) (show 1 < 3 by decide) (show 2 < 3 by decide) (by decide) (fun _ _ => rfl) (fun (found_3 : Nat) (at_4 : Nat) =>
  (rb_end (s := ((found_3, at_4) : (Nat × Nat))) ⟨.eq _, ⟨.eq _, ⟨.eq _, trivial⟩⟩⟩)))) (fun (s_2 : (Nat × Nat)) =>
  (rb_ret (re_v (i := 1) (a := (s_2.1 : Nat)) rfl))))))) (by rw [dblW_fn] at h; exact h)⟩
/-! ### law -/
def lawB (ns : List Int) : M (Ctl Bool Unit Unit) :=
  (bindW (bindW (b2W (retW (1 : Nat)) (b2W (retW (2 : Nat)) (retW ns.length) (fun a b : Nat => retW (min a b))) (fun a b : Nat => retW (max a b))) fun k => reqW (k < 4611686018427387904) (retW (List.range k))) fun X_ => seqW (forW (fun (k_2 : Nat) (s_1 : Unit) =>
  (potW (ns.length ≤ 63 ∧ k_2 ≤ 100) (bindW (b2W (retW (1 : Nat)) (c1W (retW (60 : Nat)) fun A_1 => takeW A_1) (fun a b : Nat => retW (a + b))) fun (lettersof_3 : Nat) =>
  (bindW (b2W (retW (2 : Nat)) (retW (65 : Nat)) fun a b => reqW (a < 4611686018427387904 ∧ b < 4611686018427387904) (retW (rng2 a b))) fun X_ => seqW (forW (fun (size_5 : Nat) (s_4 : Unit) =>
  (bindW (bindW (b2W (retW (1 : Nat)) (b2W (retW (60 : Nat)) (b2W (retW (lettersof_3 : Nat)) (retW ([] : List Nat)) fun a as => retW (a :: as)) fun a as => retW (a :: as)) fun a as => retW (a :: as)) fun xs => reqW (xs.length ≤ sizeLine) (retW xs)) fun X_ => seqW (forW (fun (long_7 : Nat) (s_6 : Unit) =>
  (bindW (b2W (bindW (c2W (retW (size_5 : Nat)) (retW (long_7 : Nat)) fun A_1 A_2 => pureW (bouW A_1 A_2)) fun n : Nat => reqW (n < 2 ^ 60) (retW (repN n))) (bindW (b2W (b2W (retW (long_7 : Nat)) (retW (1 : Nat)) (fun a b : Nat => reqW (b ≤ a) (retW (a - b)))) (c1W (retW (size_5 : Nat)) fun A_1 => pureW (dblW A_1)) (fun a b : Nat => retW (a + b))) fun n : Nat => reqW (n < 2 ^ 60) (retW (repN n))) (fun a b : Str => retW (!decide (a = b)))) fun B_ => seqW (if B_ = true then (bindW (retW false) fun r => retW (.ret r)) else (retW (.nxt (() : Unit)))) fun (s_8 : Unit) =>
  (retW (.nxt (() : Unit))))) X_ (() : Unit)) fun (s_6 : Unit) =>
  (retW (.nxt (() : Unit))))) X_ (() : Unit)) fun (s_4 : Unit) =>
  (b2W (b2W (retW (1 : Nat)) (c1W (retW (3 : Nat)) fun A_1 => takeW A_1) (fun a b : Nat => retW (a + b))) (c1W (retW (2 : Nat)) fun A_1 => takeW A_1) fun (size_9 : Nat) (first_10 : Nat) =>
  (bindW (b2W (retW (1 : Nat)) (c1W (retW (9 : Nat)) fun A_1 => takeW A_1) (fun a b : Nat => retW (a + b))) fun (long_11 : Nat) =>
  (bindW (c3W (retW (size_9 : Nat)) (retW (long_11 : Nat)) (retW (first_10 : Nat)) fun A_1 A_2 A_3 => pureW (plaW A_1 A_2 A_3)) fun (beats_12 : (List (List (T3 Nat Nat Nat)))) =>
  (bindW (orW (b2W (c3W (retW (first_10 : Nat)) (retW (long_11 : Nat)) (retW (size_9 : Nat)) fun A_1 A_2 A_3 => pureW (plaW A_3 A_2 A_1)) (retW (beats_12 : (List (List (T3 Nat Nat Nat))))) (fun (a : (List (List (T3 Nat Nat Nat)))) (b : (List (List (T3 Nat Nat Nat)))) => reqW (shapeOk (enc a) ∧ shapeOk (enc b)) (retW (!PyData.eqv (enc a) (enc b))))) (b2W (c2W (retW (long_11 : Nat)) (retW (size_9 : Nat)) fun A_1 A_2 => pureW (plaW A_2 A_1 0)) (c2W (retW (size_9 : Nat)) (retW (long_11 : Nat)) fun A_1 A_2 => pureW (plaW A_1 A_2 0)) (fun (a : (List (List (T3 Nat Nat Nat)))) (b : (List (List (T3 Nat Nat Nat)))) => reqW (shapeOk (enc a) ∧ shapeOk (enc b)) (retW (!PyData.eqv (enc a) (enc b)))))) fun B_ => seqW (if B_ = true then (bindW (retW false) fun r => retW (.ret r)) else (retW (.nxt (() : Unit)))) fun (s_13 : Unit) =>
  (bindW (c1W (retW (size_9 : Nat)) fun A_1 => pureW (twoW A_1)) fun (folk_14 : Nat) =>
  (bindW (b2W (c4W (retW (first_10 : Nat)) (retW (beats_12 : (List (List (T3 Nat Nat Nat))))) (retW (long_11 : Nat)) (retW (folk_14 : Nat)) fun A_1 A_2 A_3 A_4 => pureW (judW A_4 A_3 A_2 A_1)) (c4W (retW (folk_14 : Nat)) (retW (long_11 : Nat)) (retW (beats_12 : (List (List (T3 Nat Nat Nat))))) (retW (first_10 : Nat)) fun A_1 A_2 A_3 A_4 => pureW (judW A_1 A_2 A_3 A_4)) (fun (a : Vd) (b : Vd) => reqW (shapeOk (enc a) ∧ shapeOk (enc b)) (retW (!PyData.eqv (enc a) (enc b))))) fun B_ => seqW (if B_ = true then (bindW (retW false) fun r => retW (.ret r)) else (retW (.nxt (() : Unit)))) fun (s_15 : Unit) =>
  (bindW (orW (b2W (c2W (retW (long_11 : Nat)) (retW (folk_14 : Nat)) fun A_1 A_2 => pureW (bouW A_2 A_1)) (c2W (retW (folk_14 : Nat)) (retW (long_11 : Nat)) fun A_1 A_2 => pureW (bouW A_1 A_2)) (fun a b : Nat => retW (!decide (a = b)))) (b2W (mapW Vd.nm (c3W (retW (folk_14 : Nat)) (retW (long_11 : Nat)) (c2W (retW (size_9 : Nat)) (retW (long_11 : Nat)) fun A_1 A_2 => pureW (plaW A_1 A_2 0)) fun A_1 A_2 A_3 => pureW (judW A_1 A_2 A_3 0))) (retW ("done" : Str)) (fun a b : Str => retW (!decide (a = b))))) fun B_ => seqW (if B_ = true then (bindW (retW false) fun r => retW (.ret r)) else (retW (.nxt (() : Unit)))) fun (s_16 : Unit) =>
  (retW (.nxt (() : Unit)))))))))))))) X_ (() : Unit)) fun (s_1 : Unit) =>
  (bindW (retW true) fun r => retW (.ret r)))
theorem scLaw : FnScope ["_law_script", "_law_k", "_law_pot_here", "_law_letters_of", "_law_size", "_law_long", "_law_beats", "_law_folk", "_law_first"] ["_law_script"] (defScope sLaw) := ⟨rfl, rfl, rfl, by decide +kernel, rfl, by decide +kernel, by decide +kernel⟩
theorem ok_law {f_bou f_dbl f_jud f_pla f_take f_two : Addr} {d_bou d_dbl d_jud d_pla d_take d_two : FuncData} {f_urn : Addr} {d_urn : FuncData} (F : Fun K "law" "law" sLaw f fd) (b : Bls mg) (c_bou : CalF P w K mg base 1 "bound" f_bou d_bou ["hands", "m"] (spW2 K T bouW)) (c_dbl : CalF P w K mg base 1 "_law_doublings" f_dbl d_dbl ["_law_size"] (spW1 K T dblW)) (c_jud : CalS P w K mg base 2 "judged" f_jud d_jud ["hands", "m", "plan", "source"] (spW4 K T judW)) (c_pla : CalS P w K mg base 12 "plan" f_pla d_pla ["q", "m", "source"] (spW3 K T plaW)) (c_take : CalF P w K mg base 1 "_law_take" f_take d_take ["_law_pot_here", "_law_upto"] (spP1 K T takeW)) (c_two : CalF P w K mg base 1 "_law_two" f_two d_two ["_law_k"] (spW1 K T twoW)) (q_bou_0_10 : KBinds K d_bou ["hands", "m"] ["m", "hands"] (gN 0 [1, 0]) (gN 0 [1, 0])) (q_pla_d : ∃ ds, Vals [V.int 0] ds ∧ Binds K d_pla ["q", "m", "source"] ds) (q_pla_0_210 : KBinds K d_pla ["q", "m", "source"] ["source", "m", "q"] (gN 0 [2, 1, 0]) (gN 0 [2, 1, 0])) (q_jud_0_3210 : KBinds K d_jud ["hands", "m", "plan", "source"] ["source", "plan", "m", "hands"] (gN 0 [3, 2, 1, 0]) (gN 0 [3, 2, 1, 0])) (q_jud_3_0123 : KBinds K d_jud ["hands", "m", "plan", "source"] ["source"] (gN 3 [0, 1, 2, 3]) (gN 3 [0, 1, 2, 3])) (q_pla_0_10d : ∃ z_ : Value, KBinds K d_pla ["q", "m", "source"] ["m", "q"] (gD 0 [1, 0] z_) (gD 0 [1, 0] (V.int 0))) (q_jud_d : ∃ ds, Vals [V.int 0] ds ∧ Binds K d_jud ["hands", "m", "plan", "source"] ds) (q_pla_2_012 : KBinds K d_pla ["q", "m", "source"] ["source"] (gN 2 [0, 1, 2]) (gN 2 [0, 1, 2])) (c_urn : CalF P w K mg base 1 "_law_pot" f_urn d_urn ["_law_script", "_law_k"] (spPot K)) (win : ∀ ns : List Int, ns.length ≤ 63 → outW (lawB ns) 0 fun r _ => r = true) : FnOk P w K mg base CX0 13 f fd ["_law_script"] (spLawT K T) := by
  refine F.ok scLaw (fun vs H Q E h => ?_) (fun cdv A outer s H vs Q E hr h => ?_)
  · exact spLawT_len h
  · refine ⟨_, (pss_cons (ps_for PassesOwn.never rfl (pi_range1 (by rfl) b.range (pa_cons (pe_callB (call_max2 rfl) (by rfl) b.max (by decide +kernel) (pa_cons pe_int (pa_cons (pe_callB (call_min2 rfl) (by rfl) b.min (by decide +kernel) (pa_cons pe_int (pa_cons (pe_callB call_len_seq (by rfl) b.len PySem.boot_len (pa_cons (pv 0) pa_nil)) pa_nil))) pa_nil))) pa_nil)) (pg_name (i := 1) scLaw.nd rfl (Or.inl rfl))
      (pss_cons (ps_set (i := 2) scLaw.nd rfl (.inl rfl) (pe_call c_urn.G (hr.mono (by decide)) (by rfl) c_urn.g c_urn.kp c_urn.b .nil pass0 (pa_cons (pv 0) (pa_cons (pv 1) pa_nil))))
      (pss_cons (ps_set (i := 3) scLaw.nd rfl (.inl rfl) (pe_op op_addN pe_int (pe_call c_take.G (hr.mono (by decide)) (by rfl) c_take.g c_take.kp c_take.b .nil pass0 (pa_cons (pv 2) (pa_cons pe_int pa_nil)))))
      (pss_cons (ps_for PassesOwn.never rfl (pi_range2 (by rfl) b.range (pa_cons pe_int (pa_cons pe_int pa_nil))) (pg_name (i := 4) scLaw.nd rfl (Or.inl rfl))
      (pss_cons (ps_for PassesOwn.never rfl (pi_tup (pe_tup (pa_cons pe_int (pa_cons pe_int (pa_cons (pv 3) pa_nil))))) (pg_name (i := 5) scLaw.nd rfl (Or.inl rfl))
      (pss_cons (ps_if (pt_cmpR op_ne (pe_callB (show CallR _ (.builtin "repr") rReprN from call_reprN) (by rfl) b.repr (by decide +kernel) (pa_cons (pe_call c_bou.G (hr.mono (by decide)) (by rfl) c_bou.g c_bou.kp c_bou.b .nil pass0 (pa_cons (pv 4) (pa_cons (pv 5) pa_nil))) pa_nil)) (pe_callB (show CallR _ (.builtin "repr") rReprN from call_reprN) (by rfl) b.repr (by decide +kernel) (pa_cons (pe_op op_addN (pe_op op_subN (pv 5) pe_int) (pe_call c_dbl.G (hr.mono (by decide)) (by rfl) c_dbl.g c_dbl.kp c_dbl.b .nil pass0 (pa_cons (pv 4) pa_nil))) pa_nil)) (nomark _)) (pss_cons (ps_ret pe_bl)
      pss_nil) pss_nil)
      pss_nil))
      pss_nil))
      (pss_cons (ps_par (i := 4) (j := 8) (by rfl) scLaw.nd rfl rfl (by decide) rfl rfl (pa_cons (pe_op op_addN pe_int (pe_call c_take.G (hr.mono (by decide)) (by rfl) c_take.g c_take.kp c_take.b .nil pass0 (pa_cons (pv 2) (pa_cons pe_int pa_nil)))) (pa_cons (pe_call c_take.G (hr.mono (by decide)) (by rfl) c_take.g c_take.kp c_take.b .nil pass0 (pa_cons (pv 2) (pa_cons pe_int pa_nil))) pa_nil)) (by rfl))
      (pss_cons (ps_set (i := 5) scLaw.nd rfl (.inl rfl) (pe_op op_addN pe_int (pe_call c_take.G (hr.mono (by decide)) (by rfl) c_take.g c_take.kp c_take.b .nil pass0 (pa_cons (pv 2) (pa_cons pe_int pa_nil)))))
      (pss_cons (ps_set (i := 6) scLaw.nd rfl (.inl rfl) (pe_callK c_pla.G (hr.mono (by decide)) (by rfl) c_pla.g c_pla.kp q_pla_2_012 pass0 (pa_cons (pv 4) (pa_cons (pv 5) pa_nil)) (pk_cons (pv 8) pk_nil)))
      (pss_cons (ps_if (PW.pt (pw_or (pt_cmpR (op_neD hr.units) (pe_callK0 c_pla.G (hr.mono (by decide)) (by rfl) c_pla.g c_pla.kp q_pla_0_210 pass0 (pk_cons (pv 8) (pk_cons (pv 5) (pk_cons (pv 4) pk_nil)))) (pv 6) (nomark _)) (pw_or1 (pt_cmpR (op_neD hr.units) (pe_callK0 c_pla.G (hr.mono (by decide)) (by rfl) c_pla.g c_pla.kp q_pla_0_10d.choose_spec pass0 (pk_cons (pv 5) (pk_cons (pv 4) pk_nil))) (pe_call c_pla.G (hr.mono (by decide)) (by rfl) c_pla.g c_pla.kp q_pla_d.choose_spec.2 q_pla_d.choose_spec.1 pass0 (pa_cons (pv 4) (pa_cons (pv 5) pa_nil))) (nomark _))))) (pss_cons (ps_ret pe_bl)
      pss_nil) pss_nil)
      (pss_cons (ps_set (i := 7) scLaw.nd rfl (.inl rfl) (pe_call c_two.G (hr.mono (by decide)) (by rfl) c_two.g c_two.kp c_two.b .nil pass0 (pa_cons (pv 4) pa_nil)))
      (pss_cons (ps_if (pt_cmpR (op_neD hr.units) (pe_callK0 c_jud.G (hr.mono (by decide)) (by rfl) c_jud.g c_jud.kp q_jud_0_3210 pass0 (pk_cons (pv 8) (pk_cons (pv 6) (pk_cons (pv 5) (pk_cons (pv 7) pk_nil))))) (pe_callK c_jud.G (hr.mono (by decide)) (by rfl) c_jud.g c_jud.kp q_jud_3_0123 pass0 (pa_cons (pv 7) (pa_cons (pv 5) (pa_cons (pv 6) pa_nil))) (pk_cons (pv 8) pk_nil)) (nomark _)) (pss_cons (ps_ret pe_bl)
      pss_nil) pss_nil)
      (pss_cons (ps_if (PW.pt (pw_or (pt_cmpR op_ne (pe_callK0 c_bou.G (hr.mono (by decide)) (by rfl) c_bou.g c_bou.kp q_bou_0_10 pass0 (pk_cons (pv 5) (pk_cons (pv 7) pk_nil))) (pe_call c_bou.G (hr.mono (by decide)) (by rfl) c_bou.g c_bou.kp c_bou.b .nil pass0 (pa_cons (pv 7) (pa_cons (pv 5) pa_nil))) (nomark _)) (pw_or1 (pt_cmpR op_ne (pe_ix ix_tup (pe_call c_jud.G (hr.mono (by decide)) (by rfl) c_jud.g c_jud.kp q_jud_d.choose_spec.2 q_jud_d.choose_spec.1 pass0 (pa_cons (pv 7) (pa_cons (pv 5) (pa_cons (pe_call c_pla.G (hr.mono (by decide)) (by rfl) c_pla.g c_pla.kp q_pla_d.choose_spec.2 q_pla_d.choose_spec.1 pass0 (pa_cons (pv 4) (pa_cons (pv 5) pa_nil))) pa_nil)))) pe_int (fun _ _ => rfl)) pe_str (nomark _))))) (pss_cons (ps_ret pe_bl)
      pss_nil) pss_nil)
      pss_nil)))))))))))
      (pss_cons (ps_ret pe_bl)
      pss_nil)), lawT_run (T := T) (N := ["_law_script", "_law_k", "_law_pot_here", "_law_letters_of", "_law_size", "_law_long", "_law_beats", "_law_folk", "_law_first"]) (mB := lawB) (ρ := fun ns => [.scr ns, .any, .any, .any, .any, .any, .any, .any, .any]) (ρn := fun _ => []) (ρb := fun _ => []) (C := fun po => po = none) (fun _ => rfl) rfl (fun ns =>
  (rb_for (s0 := (() : Unit)) (ρl := fun (s_1 : Unit) => [.scr ns, .any, .any, .any, .any, .any, .any, .any, .any]) (ρx := fun (k_2 : Nat) (s_1 : Unit) => [.scr ns, .own (enc (k_2 : Nat)), .any, .any, .any, .any, .any, .any, .any]) (ri_range (re_cb2 ow_max (re_nat 1) (re_cb2 ow_min (re_nat 2) (re_lenS (i := 0) (ns := ns) rfl)))) ⟨.eq _, ⟨.any _, ⟨.any _, ⟨.any _, ⟨.any _, ⟨.any _, ⟨.any _, ⟨.any _, ⟨.any _, trivial⟩⟩⟩⟩⟩⟩⟩⟩⟩ (fun (k_2 : Nat) (s_1 : Unit) => (rg_name (i := 1) (ρ' := [.scr ns, .own (enc (k_2 : Nat)), .any, .any, .any, .any, .any, .any, .any]) (show 1 < 9 by decide) rfl)) (fun (k_2 : Nat) (s_1 : Unit) =>
  (rb_newpot (i := 2) (ρ2 := [.scr ns, .own (enc (k_2 : Nat)), .pot, .any, .any, .any, .any, .any, .any]) (fun Bs φ σ H n st hk Q q => urn_pot st rfl (i2 := 1) rfl hk q) (show 2 < 9 by decide) trivial rfl (rb_asg (ρ2 := fun (lettersof_3 : Nat) => [.scr ns, .own (enc (k_2 : Nat)), .pot, .own (enc (lettersof_3 : Nat)), .any, .any, .any, .any, .any]) (re_op ow_addN (re_nat 1) (re_callp1 (ip := 2) rfl (re_nat 60))) (fun (lettersof_3 : Nat) => rg_name (i := 3) (show 3 < 9 by decide) rfl) (fun (lettersof_3 : Nat) =>
  (rb_for (s0 := (() : Unit)) (ρl := fun (s_4 : Unit) => [.scr ns, .own (enc (k_2 : Nat)), .pot, .own (enc (lettersof_3 : Nat)), .any, .any, .any, .any, .any]) (ρx := fun (size_5 : Nat) (s_4 : Unit) => [.scr ns, .own (enc (k_2 : Nat)), .pot, .own (enc (lettersof_3 : Nat)), .own (enc (size_5 : Nat)), .any, .any, .any, .any]) (ri_range2 (re_nat 2) (re_nat 65)) ⟨.eq _, ⟨.eq _, ⟨.eq _, ⟨.eq _, ⟨.any _, ⟨.any _, ⟨.any _, ⟨.any _, ⟨.any _, trivial⟩⟩⟩⟩⟩⟩⟩⟩⟩ (fun (size_5 : Nat) (s_4 : Unit) => (rg_name (i := 4) (ρ' := [.scr ns, .own (enc (k_2 : Nat)), .pot, .own (enc (lettersof_3 : Nat)), .own (enc (size_5 : Nat)), .any, .any, .any, .any]) (show 4 < 9 by decide) rfl)) (fun (size_5 : Nat) (s_4 : Unit) =>
  (rb_for (s0 := (() : Unit)) (ρl := fun (s_6 : Unit) => [.scr ns, .own (enc (k_2 : Nat)), .pot, .own (enc (lettersof_3 : Nat)), .own (enc (size_5 : Nat)), .any, .any, .any, .any]) (ρx := fun (long_7 : Nat) (s_6 : Unit) => [.scr ns, .own (enc (k_2 : Nat)), .pot, .own (enc (lettersof_3 : Nat)), .own (enc (size_5 : Nat)), .own (enc (long_7 : Nat)), .any, .any, .any]) (ri_tup (re_tupL (ras_cons (re_nat 1) (ras_cons (re_nat 60) (ras_cons (re_v (i := 3) (a := (lettersof_3 : Nat)) rfl) ras_nil))))) ⟨.eq _, ⟨.eq _, ⟨.eq _, ⟨.eq _, ⟨.eq _, ⟨.any _, ⟨.any _, ⟨.any _, ⟨.any _, trivial⟩⟩⟩⟩⟩⟩⟩⟩⟩ (fun (long_7 : Nat) (s_6 : Unit) => (rg_name (i := 5) (ρ' := [.scr ns, .own (enc (k_2 : Nat)), .pot, .own (enc (lettersof_3 : Nat)), .own (enc (size_5 : Nat)), .own (enc (long_7 : Nat)), .any, .any, .any]) (show 5 < 9 by decide) rfl)) (fun (long_7 : Nat) (s_6 : Unit) =>
  (rb_if (ρ1 := fun (s_8 : Unit) => [.scr ns, .own (enc (k_2 : Nat)), .pot, .own (enc (lettersof_3 : Nat)), .own (enc (size_5 : Nat)), .own (enc (long_7 : Nat)), .any, .any, .any]) (rt_test (re_op ow_neS (re_cb uw_reprN (re_call2 (re_v (i := 4) (a := (size_5 : Nat)) rfl) (re_v (i := 5) (a := (long_7 : Nat)) rfl))) (re_cb uw_reprN (re_op ow_addN (re_op ow_subN (re_v (i := 5) (a := (long_7 : Nat)) rfl) (re_nat 1)) (re_call1 (re_v (i := 4) (a := (size_5 : Nat)) rfl))))))
  (rb_ret (re_bool false))
  (rb_end (s := (() : Unit)) ⟨.eq _, ⟨.eq _, ⟨.eq _, ⟨.eq _, ⟨.eq _, ⟨.eq _, ⟨.any _, ⟨.any _, ⟨.any _, trivial⟩⟩⟩⟩⟩⟩⟩⟩⟩) (fun (s_8 : Unit) =>
  (rb_end (s := (() : Unit)) ⟨.eq _, ⟨.eq _, ⟨.eq _, ⟨.eq _, ⟨.eq _, ⟨.any _, ⟨.any _, ⟨.any _, ⟨.any _, trivial⟩⟩⟩⟩⟩⟩⟩⟩⟩)))) (fun (s_6 : Unit) =>
  (rb_end (s := (() : Unit)) ⟨.eq _, ⟨.eq _, ⟨.eq _, ⟨.eq _, ⟨.any _, ⟨.any _, ⟨.any _, ⟨.any _, ⟨.any _, trivial⟩⟩⟩⟩⟩⟩⟩⟩⟩)))) (fun (s_4 : Unit) =>
  (rb_par (ρ2 := fun (size_9 : Nat) (first_10 : Nat) => [.scr ns, .own (enc (k_2 : Nat)), .pot, .own (enc (lettersof_3 : Nat)), .own (enc (size_9 : Nat)), .any, .any, .any, .own (enc (first_10 : Nat))]) (re_op ow_addN (re_nat 1) (re_callp1 (ip := 2) rfl (re_nat 3))) (re_callp1 (ip := 2) rfl (re_nat 2)) (show 4 < 9 by decide) (show 8 < 9 by decide) (by decide) (fun _ _ => rfl) (fun (size_9 : Nat) (first_10 : Nat) =>
  (rb_asg (ρ2 := fun (long_11 : Nat) => [.scr ns, .own (enc (k_2 : Nat)), .pot, .own (enc (lettersof_3 : Nat)), .own (enc (size_9 : Nat)), .own (enc (long_11 : Nat)), .any, .any, .own (enc (first_10 : Nat))]) (re_op ow_addN (re_nat 1) (re_callp1 (ip := 2) rfl (re_nat 9))) (fun (long_11 : Nat) => rg_name (i := 5) (show 5 < 9 by decide) rfl) (fun (long_11 : Nat) =>
  (rb_asg (ρ2 := fun (beats_12 : (List (List (T3 Nat Nat Nat)))) => [.scr ns, .own (enc (k_2 : Nat)), .pot, .own (enc (lettersof_3 : Nat)), .own (enc (size_9 : Nat)), .own (enc (long_11 : Nat)), .own (enc (beats_12 : (List (List (T3 Nat Nat Nat))))), .any, .own (enc (first_10 : Nat))]) (rk_pla_2_012 (re_v (i := 4) (a := (size_9 : Nat)) rfl) (re_v (i := 5) (a := (long_11 : Nat)) rfl) (re_v (i := 8) (a := (first_10 : Nat)) rfl)) (fun (beats_12 : (List (List (T3 Nat Nat Nat)))) => rg_name (i := 6) (show 6 < 9 by decide) rfl) (fun (beats_12 : (List (List (T3 Nat Nat Nat)))) =>
  (rb_if (ρ1 := fun (s_13 : Unit) => [.scr ns, .own (enc (k_2 : Nat)), .pot, .own (enc (lettersof_3 : Nat)), .own (enc (size_9 : Nat)), .own (enc (long_11 : Nat)), .own (enc (beats_12 : (List (List (T3 Nat Nat Nat))))), .any, .own (enc (first_10 : Nat))]) (rt_or (rt_test (re_op ow_neD (rk_pla_0_210 (re_v (i := 8) (a := (first_10 : Nat)) rfl) (re_v (i := 5) (a := (long_11 : Nat)) rfl) (re_v (i := 4) (a := (size_9 : Nat)) rfl)) (re_v (i := 6) (a := (beats_12 : (List (List (T3 Nat Nat Nat))))) rfl))) (rt_test (re_op ow_neD (rk_pla_0_10d (re_v (i := 5) (a := (long_11 : Nat)) rfl) (re_v (i := 4) (a := (size_9 : Nat)) rfl)) (re_calld2 (re_v (i := 4) (a := (size_9 : Nat)) rfl) (re_v (i := 5) (a := (long_11 : Nat)) rfl)))))
  (rb_ret (re_bool false))
  (rb_end (s := (() : Unit)) ⟨.eq _, ⟨.eq _, ⟨.eq _, ⟨.eq _, ⟨.eq _, ⟨.eq _, ⟨.eq _, ⟨.any _, ⟨.eq _, trivial⟩⟩⟩⟩⟩⟩⟩⟩⟩) (fun (s_13 : Unit) =>
  (rb_asg (ρ2 := fun (folk_14 : Nat) => [.scr ns, .own (enc (k_2 : Nat)), .pot, .own (enc (lettersof_3 : Nat)), .own (enc (size_9 : Nat)), .own (enc (long_11 : Nat)), .own (enc (beats_12 : (List (List (T3 Nat Nat Nat))))), .own (enc (folk_14 : Nat)), .own (enc (first_10 : Nat))]) (re_call1 (re_v (i := 4) (a := (size_9 : Nat)) rfl)) (fun (folk_14 : Nat) => rg_name (i := 7) (show 7 < 9 by decide) rfl) (fun (folk_14 : Nat) =>
  (rb_if (ρ1 := fun (s_15 : Unit) => [.scr ns, .own (enc (k_2 : Nat)), .pot, .own (enc (lettersof_3 : Nat)), .own (enc (size_9 : Nat)), .own (enc (long_11 : Nat)), .own (enc (beats_12 : (List (List (T3 Nat Nat Nat))))), .own (enc (folk_14 : Nat)), .own (enc (first_10 : Nat))]) (rt_test (re_op ow_neD (rk_jud_0_3210 (re_v (i := 8) (a := (first_10 : Nat)) rfl) (re_v (i := 6) (a := (beats_12 : (List (List (T3 Nat Nat Nat))))) rfl) (re_v (i := 5) (a := (long_11 : Nat)) rfl) (re_v (i := 7) (a := (folk_14 : Nat)) rfl)) (rk_jud_3_0123 (re_v (i := 7) (a := (folk_14 : Nat)) rfl) (re_v (i := 5) (a := (long_11 : Nat)) rfl) (re_v (i := 6) (a := (beats_12 : (List (List (T3 Nat Nat Nat))))) rfl) (re_v (i := 8) (a := (first_10 : Nat)) rfl))))
  (rb_ret (re_bool false))
  (rb_end (s := (() : Unit)) ⟨.eq _, ⟨.eq _, ⟨.eq _, ⟨.eq _, ⟨.eq _, ⟨.eq _, ⟨.eq _, ⟨.eq _, ⟨.eq _, trivial⟩⟩⟩⟩⟩⟩⟩⟩⟩) (fun (s_15 : Unit) =>
  (rb_if (ρ1 := fun (s_16 : Unit) => [.scr ns, .own (enc (k_2 : Nat)), .pot, .own (enc (lettersof_3 : Nat)), .own (enc (size_9 : Nat)), .own (enc (long_11 : Nat)), .own (enc (beats_12 : (List (List (T3 Nat Nat Nat))))), .own (enc (folk_14 : Nat)), .own (enc (first_10 : Nat))]) (rt_or (rt_test (re_op ow_neN (rk_bou_0_10 (re_v (i := 5) (a := (long_11 : Nat)) rfl) (re_v (i := 7) (a := (folk_14 : Nat)) rfl)) (re_call2 (re_v (i := 7) (a := (folk_14 : Nat)) rfl) (re_v (i := 5) (a := (long_11 : Nat)) rfl)))) (rt_test (re_op ow_neS (re_y0 (re_calld3 (re_v (i := 7) (a := (folk_14 : Nat)) rfl) (re_v (i := 5) (a := (long_11 : Nat)) rfl) (re_calld2 (re_v (i := 4) (a := (size_9 : Nat)) rfl) (re_v (i := 5) (a := (long_11 : Nat)) rfl)))) (re_str "done"))))
  (rb_ret (re_bool false))
  (rb_end (s := (() : Unit)) ⟨.eq _, ⟨.eq _, ⟨.eq _, ⟨.eq _, ⟨.eq _, ⟨.eq _, ⟨.eq _, ⟨.eq _, ⟨.eq _, trivial⟩⟩⟩⟩⟩⟩⟩⟩⟩) (fun (s_16 : Unit) =>
  (rb_end (s := (() : Unit)) ⟨.eq _, ⟨.any _, ⟨.any _, ⟨.any _, ⟨.any _, ⟨.any _, ⟨.any _, ⟨.any _, ⟨.any _, trivial⟩⟩⟩⟩⟩⟩⟩⟩⟩))))))))))))))))))) (fun _ => trivial) (fun _ => trivial))) (fun (s_1 : Unit) =>
  (rb_ret (re_bool true))))) h win⟩
end
end Bf
namespace Bf
open PySem PySem.Spec PyProof.Rows L2 LamX NdefX
/-! ## what dicts hold -/
section
variable {κ β : Type} [Enc κ] [TK κ]
theorem dGet_nil {k : κ} : dGet ([] : List (κ × β)) k = none := rfl
theorem dGet_cons {x : κ × β} {l : List (κ × β)} {j : κ} : dGet (x :: l) j = if x.1 = j then some x.2 else dGet l j := by
  unfold dGet
  rw [List.find?_cons]
  by_cases h : x.1 = j
  · rw [decide_eq_true h, if_pos h]; rfl
  · rw [decide_eq_false h, if_neg h]
theorem dGet_app {l : List (κ × β)} {k j : κ} {v : β} : dGet (l ++ [(k, v)]) j = match dGet l j with | some x => some x | none => if k = j then some v else none := by
  induction l with
  | nil => rw [List.nil_append, dGet_cons]; rfl
  | cons x l ih =>
    rw [List.cons_append, dGet_cons, dGet_cons, ih]
    by_cases h : x.1 = j
    · rw [if_pos h, if_pos h]
    · rw [if_neg h, if_neg h]
theorem dAny {l : List (κ × β)} {k : κ} : (l.any fun kv => decide (kv.1 = k)) = (dGet l k).isSome := by
  induction l with
  | nil => rfl
  | cons x l ih =>
    rw [List.any_cons, ih, dGet_cons]
    by_cases h : x.1 = k
    · rw [decide_eq_true h, if_pos h]; rfl
    · rw [decide_eq_false h, if_neg h]; rfl
theorem dGet_map {l : List (κ × β)} {k j : κ} {v : β} : dGet (l.map fun kv => if kv.1 = k then (kv.1, v) else kv) j = if k = j then (dGet l j).map fun _ => v else dGet l j := by
  induction l with
  | nil => rw [List.map_nil, dGet_nil]; split <;> rfl
  | cons x l ih =>
    rw [List.map_cons, dGet_cons, dGet_cons, ih]
    by_cases h : x.1 = k
    · subst h
      rw [if_pos rfl]
      by_cases h2 : x.1 = j
      · rw [if_pos h2, if_pos h2, if_pos h2]; rfl
      · simp only [if_neg h2]
    · rw [if_neg h]
      by_cases h2 : x.1 = j
      · rw [if_pos h2, if_pos h2, if_neg fun z => h (by rw [h2, z])]
      · rw [if_neg h2, if_neg h2]
theorem dGet_put {l : List (κ × β)} {k j : κ} {v : β} : dGet (dPut l k v) j = if k = j then some v else dGet l j := by
  unfold dPut
  rw [dAny]
  by_cases h : (dGet l k).isSome = true
  · rw [if_pos h, dGet_map]
    by_cases h2 : k = j
    · subst h2
      obtain ⟨x, hx⟩ := Option.isSome_iff_exists.mp h
      rw [if_pos rfl, if_pos rfl, hx]; rfl
    · rw [if_neg h2, if_neg h2]
  · rw [if_neg h, dGet_app]
    by_cases h2 : k = j
    · subst h2
      rw [if_pos rfl]
      cases e : dGet l k with
      | none => rw [if_pos rfl]
      | some x => rw [e] at h; exact absurd rfl h
    · rw [if_neg h2, if_neg h2]
      cases dGet l j <;> rfl
theorem dGet_set {l : List (κ × β)} {k j : κ} {v : β} : dGet (dSet l k v) j = match dGet l j with | some x => some x | none => if k = j then some v else none := by
  unfold dSet
  by_cases h : (dGet l k).isSome = true
  · rw [if_pos h]
    cases e : dGet l j with
    | some x => rfl
    | none =>
      show none = if k = j then some v else none
      by_cases h2 : k = j
      · subst h2; rw [e] at h; cases h
      · rw [if_neg h2]
  · rw [if_neg h, dGet_put]
    by_cases h2 : k = j
    · subst h2
      rw [if_pos rfl]
      cases e : dGet l k with
      | none => rw [if_pos rfl]
      | some x => rw [e] at h; exact absurd rfl h
    · rw [if_neg h2, if_neg h2]
      cases dGet l j <;> rfl
theorem dSet_len {l : List (κ × β)} {k : κ} {v : β} : (dSet l k v).length ≤ l.length + 1 := by
  unfold dSet
  split
  · omega
  · exact dPut_len
variable {α : Type}
theorem dcW_inv {mt : α → M Bool} {mk : α → M κ} {mv : α → M β} {xs : List α} {n0 : Nat} {P : Dct κ β → Nat → Prop} (I : Nat → List (κ × β) → Nat → Prop) (h0 : I 0 [] n0)
    (h : ∀ i a acc n, xs[i]? = some a → I i acc n → ∀ Q : List (κ × β) → Nat → Prop, (∀ acc' n', I (i + 1) acc' n' → Q acc' n') → mt a n fun b n1 => if b = true then mk a n1 fun k n2 => mv a n2 fun v n3 => Q (dPut acc k v) n3 else Q acc n1) (he : ∀ acc n, I xs.length acc n → P ⟨acc⟩ n) : dcW mt mk mv xs [] n0 P := by
  have key : ∀ (ys : List α) (k : Nat) (acc : List (κ × β)) (n : Nat), xs.drop k = ys → k ≤ xs.length → I k acc n → dcW mt mk mv ys acc n P := by
    intro ys
    induction ys with
    | nil =>
      intro k s n e hk i
      have := drop_nil e hk
      subst this
      rw [dcW_nil]
      exact he s n i
    | cons y ys ih =>
      intro k acc n e hk i
      rw [dcW_cons]
      obtain ⟨hy, hk2, ey⟩ := drop_cons e
      have z := h k y acc n hy i (fun acc' n' => dcW mt mk mv ys acc' n' P) fun acc' n' i' => ih (k + 1) acc' n' ey hk2 i'
      have e2 : ∀ b : Bool, (fun n1 => if b = true then mk y n1 fun k n2 => mv y n2 fun v n3 => dcW mt mk mv ys (dPut acc k v) n3 P else dcW mt mk mv ys acc n1 P) = fun n1 => (if b = true then bindW (mk y) fun k => bindW (mv y) fun v => dcW mt mk mv ys (dPut acc k v) else dcW mt mk mv ys acc) n1 P := fun b => by
        cases b <;> rfl
      show mt y n fun b n1 => (if b = true then bindW (mk y) fun k => bindW (mv y) fun v => dcW mt mk mv ys (dPut acc k v) else dcW mt mk mv ys acc) n1 P
      have e3 : (fun b n1 => (if b = true then bindW (mk y) fun k => bindW (mv y) fun v => dcW mt mk mv ys (dPut acc k v) else dcW mt mk mv ys acc) n1 P) = fun (b : Bool) n1 => if b = true then mk y n1 fun k n2 => mv y n2 fun v n3 => dcW mt mk mv ys (dPut acc k v) n3 P else dcW mt mk mv ys acc n1 P := funext fun b => (e2 b).symm
      rw [e3]
      exact z
  exact key xs 0 [] n0 rfl (Nat.zero_le _) h0
end
theorem kGet_cons {β : Type} {x : Nat × β} {l : List (Nat × β)} {j : Nat} : kGet (x :: l) j = if x.1 = j then some x.2 else kGet l j := by
  unfold kGet
  rw [List.find?_cons]
  by_cases h : x.1 = j
  · rw [decide_eq_true h, if_pos h]; rfl
  · rw [decide_eq_false h, if_neg h]
theorem kAny {β : Type} {l : List (Nat × β)} {k : Nat} : (l.any fun kv => decide (kv.1 = k)) = (kGet l k).isSome := by
  induction l with
  | nil => rfl
  | cons x l ih =>
    rw [List.any_cons, ih, kGet_cons]
    by_cases h : x.1 = k
    · rw [decide_eq_true h, if_pos h]; rfl
    · rw [decide_eq_false h, if_neg h]; rfl
theorem kGet_map {β : Type} {l : List (Nat × β)} {k j : Nat} {v : β} : kGet (l.map fun kv => if kv.1 = k then (kv.1, v) else kv) j = if k = j then (kGet l j).map fun _ => v else kGet l j := by
  induction l with
  | nil => show none = _; split <;> rfl
  | cons x l ih =>
    rw [List.map_cons, kGet_cons, kGet_cons, ih]
    by_cases h : x.1 = k
    · subst h
      rw [if_pos rfl]
      by_cases h2 : x.1 = j
      · rw [if_pos h2, if_pos h2, if_pos h2]; rfl
      · simp only [if_neg h2]
    · rw [if_neg h]
      by_cases h2 : x.1 = j
      · rw [if_pos h2, if_pos h2, if_neg fun z => h (by rw [h2, z])]
      · rw [if_neg h2, if_neg h2]
theorem kGet_app {β : Type} {l : List (Nat × β)} {k j : Nat} {v : β} : kGet (l ++ [(k, v)]) j = match kGet l j with | some x => some x | none => if k = j then some v else none := by
  induction l with
  | nil => rw [List.nil_append, kGet_cons]; rfl
  | cons x l ih =>
    rw [List.cons_append, kGet_cons, kGet_cons, ih]
    by_cases h : x.1 = j
    · rw [if_pos h, if_pos h]
    · rw [if_neg h, if_neg h]
theorem kGet_put {β : Type} [Enc β] {l : List (Nat × β)} {k j : Nat} {v : β} : kGet (kPut l k v) j = if k = j then some v else kGet l j := by
  unfold kPut
  rw [kAny]
  by_cases h : (kGet l k).isSome = true
  · rw [if_pos h, kGet_map]
    by_cases h2 : k = j
    · subst h2
      obtain ⟨x, hx⟩ := Option.isSome_iff_exists.mp h
      rw [if_pos rfl, if_pos rfl, hx]; rfl
    · rw [if_neg h2, if_neg h2]
  · rw [if_neg h, kGet_app]
    by_cases h2 : k = j
    · subst h2
      rw [if_pos rfl]
      cases e : kGet l k with
      | none => rw [if_pos rfl]
      | some x => rw [e] at h; exact absurd rfl h
    · rw [if_neg h2, if_neg h2]
      cases kGet l j <;> rfl
theorem kPut_len {β : Type} [Enc β] {l : List (Nat × β)} {k : Nat} {v : β} : (kPut l k v).length ≤ l.length + 1 := by
  unfold kPut
  split
  · rw [List.length_map]; omega
  · rw [List.length_append]; exact Nat.le_refl _
theorem rgAt {n i a : Nat} (h : (List.range n)[i]? = some a) : i < n ∧ a = i := by
  obtain ⟨h1, h2⟩ := List.getElem?_eq_some_iff.mp h
  rw [List.getElem_range] at h2
  rw [List.length_range] at h1
  exact ⟨h1, h2.symm⟩
theorem enAt {α : Type} {xs : List α} {i : Nat} {ia : Nat × α} (h : (enW xs)[i]? = some ia) : ia.1 = i ∧ xs[i]? = some ia.2 := by
  unfold enW at h
  rw [List.getElem?_zip_eq_some] at h
  exact ⟨(rgAt h.1).2, h.2⟩
theorem dropAt {α : Type} {xs : List α} {i : Nat} {a : α} (h : xs[i]? = some a) : xs.drop i = a :: xs.drop (i + 1) := drop_at (List.getElem?_eq_some_iff.mp h).1 h
/-! ## a plan judged -/
abbrev TT := T3 Nat Nat Nat
abbrev KF := Nat × Nat → Option Int
def wrG (F : KF) (at_ : Nat) : List TT → List Nat → Option Nat
  | [], _ => none
  | t :: ts, hs => if t.a = t.b ∨ t.b ∈ hs then some t.a else if (at_ : Int) ≤ (F (t.a, t.c)).getD (at_ : Int) then some t.a else wrG F at_ ts (t.b :: hs)
def nxG (F : KF) (at_ : Nat) (beat : List TT) : KF := fun k => match F k with | some v => some v | none => if (beat.any fun t => decide ((t.b, t.c) = k)) = true then some (at_ : Int) else none
def ouR (F : KF) : Int → List (Nat × Nat) → Vd
  | last, [] => .done (last + 1)
  | last, k :: ks => match F k with | none => .lacks k.1 k.2 | some v => ouR F (max last v) ks
def prs (hands m : Nat) : List (Nat × Nat) := (List.range hands).flatMap fun h => (List.range m).map fun i => (h, i)
def ouG (hands m : Nat) (F : KF) : Vd := ouR F (-1) (prs hands m)
def jdG (hands m : Nat) : List (List TT) → Nat → KF → Vd
  | [], _, F => ouG hands m F
  | b :: bs, at_, F => match wrG F at_ b [] with | some x => .wrong at_ x | none => jdG hands m bs (at_ + 1) (nxG F at_ b)
theorem wrG_nil {F : KF} {at_ : Nat} {hs : List Nat} : wrG F at_ [] hs = none := rfl
theorem wrG_cons {F : KF} {at_ : Nat} {hs : List Nat} {t : TT} {ts : List TT} : wrG F at_ (t :: ts) hs = if t.a = t.b ∨ t.b ∈ hs then some t.a else if (at_ : Int) ≤ (F (t.a, t.c)).getD (at_ : Int) then some t.a else wrG F at_ ts (t.b :: hs) := rfl
theorem ouR_nil {F : KF} {last : Int} : ouR F last [] = .done (last + 1) := rfl
theorem ouR_cons {F : KF} {last : Int} {k : Nat × Nat} {ks : List (Nat × Nat)} : ouR F last (k :: ks) = match F k with | none => .lacks k.1 k.2 | some v => ouR F (max last v) ks := rfl
theorem jdG_nil {hands m at_ : Nat} {F : KF} : jdG hands m [] at_ F = ouG hands m F := rfl
theorem jdG_cons {hands m at_ : Nat} {F : KF} {b : List TT} {bs : List (List TT)} : jdG hands m (b :: bs) at_ F = match wrG F at_ b [] with | some x => .wrong at_ x | none => jdG hands m bs (at_ + 1) (nxG F at_ b) := rfl
def F0 (s m : Nat) : KF := fun k => if k.1 = s ∧ k.2 < m then some (-1) else none
def judG (hands m : Nat) (plan : List (List TT)) (s : Nat) : Vd := jdG hands m plan 0 (F0 s m)
end Bf
namespace Bf
/-! ### who tells has it -/
theorem cf_self {q d t : Nat} (hq : 0 < q) (hd : d < 2 ^ q) (b : d.testBit (t % q) = true) : cfF q d t = t := by
  have h0 : d ≠ 0 := fun e => by rw [e, Nat.zero_testBit] at b; cases b
  obtain ⟨B, _, _, hB, bB, em, c1, c2, c3⟩ := cf_spec (t := t) hq hd h0
  have := c3 t (Nat.le_refl t) b
  omega
/-- at a beat just what is due is new -/
theorem my_step {q m d t : Nat} (hq : 0 < q) (hm : 0 < m) (hd : d < 2 ^ q) (h0 : d ≠ 0) : myF q m d (t + 1) = myF q m d t + (match duF q m d t with | some i => if snF q m d i < t then 0 else 1 | none => 0) := by
  rw [← my_count hq hm hd h0, ← my_count hq hm hd h0]
  have key : ∀ l : List Nat, (l.filter fun i => decide (snF q m d i < t + 1)).length = (l.filter fun i => decide (snF q m d i < t)).length + (l.filter fun i => decide (snF q m d i = t)).length := by
    intro l
    induction l with
    | nil => rfl
    | cons a l ih =>
      simp only [List.filter_cons]
      by_cases c1 : snF q m d a < t
      · have c2 : snF q m d a < t + 1 := by omega
        have c3 : ¬ snF q m d a = t := by omega
        simp [c1, c2, c3, ih]
        omega
      · by_cases c3 : snF q m d a = t
        · have c2 : snF q m d a < t + 1 := by omega
          simp [c1, c2, c3, ih]
          omega
        · have c2 : ¬ snF q m d a < t + 1 := by omega
          simp [c1, c2, c3, ih]
  rw [key (List.range m)]
  congr 1
  have hu : ∀ i, i < m → snF q m d i = t → duF q m d t = some i := fun i hi e => by
    rw [← e]
    exact due_at hq hd h0 hi
  have one : ∀ i, duF q m d t = some i → (List.range m).filter (fun x => decide (snF q m d x = t)) = if snF q m d i < t then [] else [i] := fun i e => by
    obtain ⟨hi, hle, _⟩ := heard_by hq hm hd h0 e
    refine uniq_sorted (key := fun n : Nat => (n : Int)) (List.Pairwise.filter _ (List.pairwise_lt_range.imp fun {a b} h => by omega)) ?_ fun x => ?_
    · split
      · exact List.Pairwise.nil
      · exact List.pairwise_singleton _ _
    · rw [List.mem_filter, List.mem_range]
      constructor
      · rintro ⟨h1, h2⟩
        have h2 := of_decide_eq_true h2
        have h3 := hu x h1 h2
        rw [e] at h3
        cases h3
        rw [if_neg (by omega)]
        exact List.mem_singleton.mpr rfl
      · intro h
        split at h
        · exact absurd h List.not_mem_nil
        · rw [List.mem_singleton.mp h]
          exact ⟨hi, decide_eq_true (by omega)⟩
  cases e : duF q m d t with
  | none =>
    have : (List.range m).filter (fun x => decide (snF q m d x = t)) = [] := List.filter_eq_nil_iff.mpr fun x hx => by
      intro z
      have := hu x (List.mem_range.mp hx) (of_decide_eq_true z)
      rw [e] at this
      cases this
    rw [this]
    rfl
  | some i =>
    rw [one i e]
    show _ = if snF q m d i < t then 0 else 1
    split <;> rfl
theorem my_zero {q m d : Nat} (hq : 0 < q) (hd : d < 2 ^ q) (h0 : d ≠ 0) : myF q m d 0 = 0 := by
  obtain ⟨B, _, _, hB, bB, em, c1, c2, c3⟩ := cf_spec (t := 0) hq hd h0
  unfold myF hdF
  rw [if_neg (by omega)]
  omega
theorem my_end {q m d : Nat} (hq : 0 < q) (hm : 0 < m) (hd : d < 2 ^ q) (h0 : d ≠ 0) : myF q m d (m - 1 + q) = m := by
  obtain ⟨B, _, _, hB, bB, em, c1, c2, c3⟩ := cf_spec (t := m - 1 + q) hq hd h0
  unfold myF hdF
  rw [if_pos (by omega)]
  omega
theorem my_near {q m d : Nat} (hm : 1 < m) : myF q m d (m - 1 + q - 1) ≠ m := by
  unfold myF hdF
  split <;> omega
theorem my_near1 {q d : Nat} (hq : 0 < q) (hd : d < 2 ^ q) (h0 : d ≠ 0) : myF q 1 d (q - 1) = 1 ↔ d.testBit (q - 1) = false := by
  obtain ⟨B, _, _, hB, bB, em, c1, c2, c3⟩ := cf_spec (t := q - 1) hq hd h0
  have hk : (q - 1) % q = q - 1 := Nat.mod_eq_of_lt (by omega)
  unfold myF hdF
  cases b : d.testBit (q - 1) with
  | true =>
    have := cf_self (t := q - 1) hq hd (by rw [hk]; exact b)
    rw [if_neg (by omega)]
    constructor
    · intro z
      omega
    · intro z
      cases z
  | false =>
    have hne : cfF q d (q - 1) ≠ q - 1 := fun z => by
      rw [z, hk] at em
      rw [← em, b] at bB
      cases bB
    rw [if_pos (by omega)]
    constructor
    · intro _
      rfl
    · intro _
      omega
theorem half_hands : ∀ q, q < 6 → 0 < q → ∀ s, s < 2 ^ q → ((List.range (2 ^ q)).filter fun h => decide (h = s) || !(h ^^^ s).testBit (q - 1)).length = 2 ^ q / 2 := by decide +kernel
/-- who tells has it, the source heard too -/
theorem teller_has {q m d t i : Nat} (hq : 0 < q) (hm : 0 < m) (hd : d < 2 ^ q) (h : duF q m d t = some i) : i < m ∧ (d = 0 ∨ snF q m d i < t + 1) ∧ (d ^^^ 2 ^ (t % q) = 0 ∨ snF q m (d ^^^ 2 ^ (t % q)) i < t) := by
  by_cases h0 : d = 0
  · subst h0
    have hk : t % q < q := Nat.mod_lt _ hq
    have hp : 2 ^ (t % q) < 2 ^ q := Nat.pow_lt_pow_right (by decide) hk
    have hb : (2 ^ (t % q)).testBit (t % q) = true := Nat.testBit_two_pow_self
    have hc := cf_self (t := t) hq hp hb
    have hz : 2 ^ (t % q) ≠ 0 := Nat.ne_of_gt (Nat.two_pow_pos _)
    have hdu : q ≤ t ∧ i = min (t - q) (m - 1) := by
      unfold duF at h
      have e : ltF q 0 (t % q) = q := by
        unfold ltF
        rw [Nat.zero_testBit]
        rfl
      rw [e] at h
      split at h
      · cases h
      · exact ⟨by omega, (Option.some.inj h).symm⟩
    refine ⟨by omega, .inl rfl, .inr ?_⟩
    rw [Nat.zero_xor]
    refine (has_iff hq hp hz (by omega)).mpr (.inr ⟨by omega, ?_⟩)
    rw [hc]
    exact hdu.2
  · obtain ⟨h1, h2, h3⟩ := heard_by hq hm hd h0 h
    exact ⟨h1, .inr (by omega), h3⟩
/-- hands and those across from them -/
theorem count_across {N : Nat} {g : Nat → Nat} (hg : ∀ x, x < N → g x < N ∧ g (g x) = x) (p : Nat → Bool) : ((List.range N).filter fun x => p (g x)).length = ((List.range N).filter p).length := by
  have hp : ((List.range N).map g).Perm (List.range N) := by
    refine (List.perm_ext_iff_of_nodup ?_ List.nodup_range).mpr fun x => ?_
    · refine List.Pairwise.map g (R := fun a b => a < N ∧ b < N ∧ a ≠ b) (fun a b h e => h.2.2 ?_) ?_
      · rw [← (hg a h.1).2, e, (hg b h.2.1).2]
      · exact (List.nodup_range (n := N)).imp_of_mem fun {a b} ha hb h => ⟨List.mem_range.mp ha, List.mem_range.mp hb, h⟩
    · rw [List.mem_map, List.mem_range]
      constructor
      · rintro ⟨y, hy, rfl⟩
        exact (hg y (List.mem_range.mp hy)).1
      · intro hx
        exact ⟨g x, List.mem_range.mpr (hg x hx).1, (hg x hx).2⟩
  have h1 := (hp.filter p).length_eq
  rw [List.filter_map, List.length_map] at h1
  exact h1
end Bf
namespace Bf
/-! ## the ferry's plan judged -/
def plF (q m s t : Nat) : List TT := (List.range (2 ^ q)).filterMap fun h => (duF q m ((h ^^^ 2 ^ (t % q)) ^^^ s) t).map fun i => ⟨h, h ^^^ 2 ^ (t % q), i⟩
/-- what is had behind t beats, and since when -/
def FT (q m s t : Nat) : KF := fun k => if k.1 < 2 ^ q ∧ k.2 < m then (if k.1 = s then some (-1) else if snF q m (k.1 ^^^ s) k.2 < t then some (snF q m (k.1 ^^^ s) k.2 : Int) else none) else none
theorem xs_ne {h s : Nat} (e : h ≠ s) : h ^^^ s ≠ 0 := fun z => e (by
  have : h ^^^ s ^^^ s = 0 ^^^ s := congrArg (· ^^^ s) z
  rw [Nat.xor_assoc, Nat.xor_self, Nat.xor_zero, Nat.zero_xor] at this
  exact this)
theorem x_swap (h b s : Nat) : (h ^^^ b) ^^^ s = (h ^^^ s) ^^^ b := by rw [Nat.xor_assoc, Nat.xor_comm b s, ← Nat.xor_assoc]
theorem x_back (h b : Nat) : (h ^^^ b) ^^^ b = h := by rw [Nat.xor_assoc, Nat.xor_self, Nat.xor_zero]
section
variable {q m s t : Nat}
theorem pl_mem {x : TT} : x ∈ plF q m s t ↔ x.a < 2 ^ q ∧ x.b = x.a ^^^ 2 ^ (t % q) ∧ duF q m (x.b ^^^ s) t = some x.c := by
  unfold plF
  rw [List.mem_filterMap]
  constructor
  · rintro ⟨h, hh, e⟩
    rw [Option.map_eq_some_iff] at e
    obtain ⟨i, h1, rfl⟩ := e
    exact ⟨List.mem_range.mp hh, rfl, h1⟩
  · rintro ⟨h1, h2, h3⟩
    refine ⟨x.a, List.mem_range.mpr h1, ?_⟩
    rw [Option.map_eq_some_iff]
    refine ⟨x.c, by rw [← h2]; exact h3, ?_⟩
    rw [← h2]
theorem pl_bit (hq : 0 < q) : 2 ^ (t % q) < 2 ^ q := Nat.pow_lt_pow_right (by decide) (Nat.mod_lt _ hq)
/-- nothing is wrong -/
theorem pl_right (hq : 0 < q) (hm : 0 < m) (hs : s < 2 ^ q) : wrG (FT q m s t) t (plF q m s t) [] = none := by
  have key : ∀ (l : List Nat) (hs' : List Nat), l.Nodup → (∀ h ∈ l, h < 2 ^ q ∧ (h ^^^ 2 ^ (t % q)) ∉ hs') →
      wrG (FT q m s t) t (l.filterMap fun h => (duF q m ((h ^^^ 2 ^ (t % q)) ^^^ s) t).map fun i => (⟨h, h ^^^ 2 ^ (t % q), i⟩ : TT)) hs' = none := by
    intro l
    induction l with
    | nil => intro hs' _ _; rfl
    | cons h l ih =>
      intro hs' nd hl
      have nd := List.nodup_cons.mp nd
      rw [List.filterMap_cons]
      obtain ⟨hh, hn⟩ := hl h List.mem_cons_self
      have rest : ∀ x ∈ l, x < 2 ^ q ∧ (x ^^^ 2 ^ (t % q)) ∉ hs' := fun x hx => hl x (List.mem_cons_of_mem _ hx)
      cases e : duF q m ((h ^^^ 2 ^ (t % q)) ^^^ s) t with
      | none => exact ih hs' nd.2 rest
      | some i =>
        have hb := pl_bit (t := t) hq
        have hd : (h ^^^ 2 ^ (t % q)) ^^^ s < 2 ^ q := Nat.xor_lt_two_pow (Nat.xor_lt_two_pow hh hb) hs
        obtain ⟨h1, _, h3⟩ := teller_has hq hm hd e
        rw [x_swap, x_back] at h3
        show wrG (FT q m s t) t ((⟨h, h ^^^ 2 ^ (t % q), i⟩ : TT) :: _) hs' = none
        rw [wrG_cons]
        have ne : h ≠ h ^^^ 2 ^ (t % q) := fun z => by
          have : h ^^^ h = h ^^^ (h ^^^ 2 ^ (t % q)) := congrArg (h ^^^ ·) z
          rw [Nat.xor_self, ← Nat.xor_assoc, Nat.xor_self, Nat.zero_xor] at this
          have : 0 < 2 ^ (t % q) := Nat.two_pow_pos _
          omega
        rw [if_neg (by rintro (z | z); exact ne z; exact hn z)]
        have hf : (FT q m s t (h, i)).getD (t : Int) < (t : Int) := by
          unfold FT
          rw [if_pos ⟨hh, h1⟩]
          by_cases z : h = s
          · rw [if_pos z]
            show (-1 : Int) < t
            omega
          · rw [if_neg z]
            have h4 := h3.resolve_left (xs_ne z)
            rw [if_pos h4]
            show ((snF q m (h ^^^ s) i : Nat) : Int) < t
            omega
        rw [if_neg (by show ¬ (t : Int) ≤ (FT q m s t (h, i)).getD (t : Int); omega)]
        refine ih _ nd.2 fun x hx => ⟨(rest x hx).1, fun z => ?_⟩
        rcases List.mem_cons.mp z with z | z
        · have := congrArg (· ^^^ 2 ^ (t % q)) z
          dsimp only at this
          rw [x_back, x_back] at this
          rw [this] at hx
          exact nd.1 hx
        · exact (rest x hx).2 z
  exact key _ [] List.nodup_range fun h hh => ⟨List.mem_range.mp hh, List.not_mem_nil⟩
theorem pl_next (hq : 0 < q) (hm : 0 < m) (hs : s < 2 ^ q) : nxG (FT q m s t) t (plF q m s t) = FT q m s (t + 1) := by
  funext k
  obtain ⟨h, i⟩ := k
  have hb := pl_bit (t := t) hq
  have any : ((plF q m s t).any fun x => decide ((x.b, x.c) = (h, i))) = true ↔ h < 2 ^ q ∧ duF q m (h ^^^ s) t = some i := by
    rw [List.any_eq_true]
    constructor
    · rintro ⟨x, hx, e⟩
      obtain ⟨h1, h2, h3⟩ := pl_mem.mp hx
      have e := of_decide_eq_true e
      rw [Prod.mk.injEq] at e
      obtain ⟨e1, e2⟩ := e
      rw [e1, e2] at h3
      refine ⟨?_, h3⟩
      rw [← e1, h2]
      exact Nat.xor_lt_two_pow h1 hb
    · rintro ⟨h1, h2⟩
      refine ⟨⟨h ^^^ 2 ^ (t % q), h, i⟩, pl_mem.mpr ⟨Nat.xor_lt_two_pow h1 hb, ?_, h2⟩, decide_eq_true rfl⟩
      show h = (h ^^^ 2 ^ (t % q)) ^^^ 2 ^ (t % q)
      rw [x_back]
  unfold nxG
  by_cases c : h < 2 ^ q ∧ i < m
  · have hd : h ^^^ s < 2 ^ q := Nat.xor_lt_two_pow c.1 hs
    unfold FT
    simp only [if_pos c]
    by_cases z : h = s
    · simp only [if_pos z]
    · simp only [if_neg z]
      by_cases lt : snF q m (h ^^^ s) i < t
      · simp only [if_pos lt]
        rw [if_pos (by omega)]
      · simp only [if_neg lt]
        by_cases eq : snF q m (h ^^^ s) i = t
        · rw [if_pos (any.mpr ⟨c.1, by rw [← eq]; exact due_at hq hd (xs_ne z) c.2⟩), if_pos (by omega), eq]
        · rw [if_neg (fun w => by
            obtain ⟨_, w2⟩ := any.mp w
            obtain ⟨_, w3, _⟩ := teller_has hq hm hd w2
            have := w3.resolve_left (xs_ne z)
            omega), if_neg (by omega)]
  · have e1 : ∀ t, FT q m s t (h, i) = none := fun t => by unfold FT; rw [if_neg c]
    rw [e1, e1]
    show (if ((plF q m s t).any fun x => decide ((x.b, x.c) = (h, i))) = true then some (t : Int) else none) = none
    rw [if_neg fun w => ?_]
    obtain ⟨w1, w2⟩ := any.mp w
    exact c ⟨w1, (teller_has hq hm (Nat.xor_lt_two_pow w1 hs) w2).1⟩
theorem ft_0 (hs : s < 2 ^ q) : F0 s m = FT q m s 0 := by
  funext k
  obtain ⟨h, i⟩ := k
  unfold F0 FT
  dsimp only
  by_cases c : h = s ∧ i < m
  · rw [if_pos c, if_pos ⟨by rw [c.1]; exact hs, c.2⟩, if_pos c.1]
  · rw [if_neg c]
    by_cases c2 : h < 2 ^ q ∧ i < m
    · rw [if_pos c2, if_neg fun z => c ⟨z, c2.2⟩, if_neg (by omega)]
    · rw [if_neg c2]
theorem sn_end {d i : Nat} (hq : 0 < q) (hi : i < m) : snF q m d i < m - 1 + q := by
  unfold snF
  by_cases e : i + 1 = m
  · rw [if_pos e]
    have := far_lt (q := q) (d := d) (j := i % q) hq
    omega
  · rw [if_neg e]
    have := dy_le (q := q) (d := d) (j := i % q) hq
    omega
/-- the judge's way along the plan's beginning -/
theorem jd_along {hands : Nat} (hq : 0 < q) (hm : 0 < m) (hs : s < 2 ^ q) (rest : List (List TT)) : ∀ n t : Nat, jdG hands m (((List.range n).map fun r => plF q m s (t + r)) ++ rest) t (FT q m s t) = jdG hands m rest (t + n) (FT q m s (t + n))
  | 0, t => rfl
  | n + 1, t => by
    rw [List.range_succ_eq_map, List.map_cons, List.map_map, List.cons_append, jdG_cons, Nat.add_zero, pl_right hq hm hs, pl_next hq hm hs]
    have z := jd_along (hands := hands) hq hm hs rest n (t + 1)
    have e : (fun r => plF q m s (t + 1 + r)) = ((fun r => plF q m s (t + r)) ∘ Nat.succ) := funext fun r => by
      show _ = plF q m s (t + (r + 1))
      rw [show t + 1 + r = t + (r + 1) by omega]
    rw [e] at z
    show jdG hands m _ (t + 1) (FT q m s (t + 1)) = _
    rw [z, show t + 1 + n = t + (n + 1) by omega]
end
theorem ouR_done {F : KF} : ∀ (L : List (Nat × Nat)) (last : Int), (∀ k ∈ L, ∃ v, F k = some v) → ∃ M : Int, ouR F last L = .done (M + 1) ∧ last ≤ M ∧ (∀ k ∈ L, ∀ v, F k = some v → v ≤ M) ∧ (M = last ∨ ∃ k ∈ L, F k = some M)
  | [], last, _ => ⟨last, rfl, Int.le_refl _, fun k h => (by cases h), .inl rfl⟩
  | k :: ks, last, h => by
    obtain ⟨v, hv⟩ := h k List.mem_cons_self
    obtain ⟨M, h1, h2, h3, h4⟩ := ouR_done ks (max last v) fun j hj => h j (List.mem_cons_of_mem _ hj)
    refine ⟨M, by rw [ouR_cons, hv]; exact h1, by omega, fun j hj w hw => ?_, ?_⟩
    · rcases List.mem_cons.mp hj with z | z
      · rw [z, hv] at hw
        cases hw
        omega
      · exact h3 j z w hw
    · rcases h4 with z | ⟨j, hj, e⟩
      · by_cases c : v ≤ last
        · exact .inl (by omega)
        · exact .inr ⟨k, List.mem_cons_self, by rw [hv, z]; congr 1; omega⟩
      · exact .inr ⟨j, List.mem_cons_of_mem _ hj, e⟩
theorem prs_mem {hands m : Nat} {k : Nat × Nat} : k ∈ prs hands m ↔ k.1 < hands ∧ k.2 < m := by
  unfold prs
  rw [List.mem_flatMap]
  constructor
  · rintro ⟨h, hh, hk⟩
    obtain ⟨i, hi, rfl⟩ := List.mem_map.mp hk
    exact ⟨List.mem_range.mp hh, List.mem_range.mp hi⟩
  · rintro ⟨h1, h2⟩
    exact ⟨k.1, List.mem_range.mpr h1, List.mem_map.mpr ⟨k.2, List.mem_range.mpr h2, rfl⟩⟩
/-- the whole plan: all done, and when -/
theorem pl_done {q m s : Nat} (hq : 0 < q) (hm : 0 < m) (hs : s < 2 ^ q) : judG (2 ^ q) m ((List.range (m - 1 + q)).map (plF q m s)) s = .done ((m - 1 + q : Nat) : Int) := by
  unfold judG
  rw [ft_0 hs]
  have z := jd_along (hands := 2 ^ q) hq hm hs [] (m - 1 + q) 0
  rw [List.append_nil] at z
  have e : (fun r => plF q m s (0 + r)) = plF q m s := funext fun r => by rw [Nat.zero_add]
  rw [e] at z
  rw [z, jdG_nil, Nat.zero_add]
  unfold ouG
  have all : ∀ k ∈ prs (2 ^ q) m, ∃ v, FT q m s (m - 1 + q) k = some v := fun k hk => by
    obtain ⟨h1, h2⟩ := prs_mem.mp hk
    unfold FT
    rw [if_pos ⟨h1, h2⟩]
    by_cases c : k.1 = s
    · exact ⟨_, if_pos c⟩
    · rw [if_neg c, if_pos (sn_end hq h2)]
      exact ⟨_, rfl⟩
  obtain ⟨M, h1, h2, h3, h4⟩ := ouR_done (prs (2 ^ q) m) (-1) all
  rw [h1]
  have up : M + 1 ≤ ((m - 1 + q : Nat) : Int) := by
    rcases h4 with z | ⟨k, hk, e⟩
    · rw [z]; omega
    · obtain ⟨k1, k2⟩ := prs_mem.mp hk
      unfold FT at e
      rw [if_pos ⟨k1, k2⟩] at e
      by_cases c : k.1 = s
      · rw [if_pos c] at e
        cases e
        omega
      · rw [if_neg c, if_pos (sn_end hq k2)] at e
        have := sn_end (q := q) (m := m) (d := k.1 ^^^ s) hq k2
        have e := Option.some.inj e
        omega
  -- the one who hears last
  have j1 : (m - 1) % q < q := Nat.mod_lt _ hq
  obtain ⟨x, hx, ax⟩ : ∃ x, x < q ∧ ar q ((m - 1) % q) x = ((q - 1 : Nat) : Int) := by
    refine ⟨((m - 1) + (q - 1)) % q, Nat.mod_lt _ hq, ?_⟩
    exact ar_add (by omega)
  have hd : 2 ^ x < 2 ^ q := Nat.pow_lt_pow_right (by decide) hx
  have h0 : 2 ^ x ≠ 0 := Nat.ne_of_gt (Nat.two_pow_pos x)
  obtain ⟨L, _, f2, f3, f4, f5⟩ := far_spec (j := (m - 1) % q) hq hd h0
  have fx := f5 x (by rw [Nat.testBit_two_pow_self])
  have hk : ((2 ^ x) ^^^ s, m - 1) ∈ prs (2 ^ q) m := prs_mem.mpr ⟨Nat.xor_lt_two_pow hd hs, by show m - 1 < m; omega⟩
  have ne : (2 ^ x) ^^^ s ≠ s := fun z => by
    have : 2 ^ x ^^^ s ^^^ s = s ^^^ s := congrArg (· ^^^ s) z
    rw [x_back, Nat.xor_self] at this
    exact h0 this
  have v : FT q m s (m - 1 + q) ((2 ^ x) ^^^ s, m - 1) = some ((snF q m (2 ^ x) (m - 1) : Nat) : Int) := by
    unfold FT
    have hm1 : m - 1 < m := by omega
    rw [if_pos ⟨Nat.xor_lt_two_pow hd hs, hm1⟩, if_neg ne]
    dsimp only
    rw [x_back, if_pos (sn_end hq hm1)]
  have low := h3 _ hk _ v
  have sn : snF q m (2 ^ x) (m - 1) = m - 1 + farF q (2 ^ x) ((m - 1) % q) := by
    unfold snF
    rw [if_pos (by omega)]
  rw [sn] at low
  congr 1
  omega
end Bf
namespace Bf
open PySem PySem.Spec PyProof.Rows L2 LamX NdefX
theorem hab_w {h k c : Nat} {P : Bool → Nat → Prop} (p : P (h.testBit k) c) : habW h k c P := by
  rw [habW_eq]
  show P (decide (h / 2 ^ k &&& 1 = 1)) c
  have e : decide (h / 2 ^ k &&& 1 = 1) = h.testBit k := by
    rw [Nat.and_one_is_mod, Nat.testBit_eq_decide_div_mod_eq]
  rw [e]
  exact p
theorem acr_w {h k c : Nat} {P : Nat → Nat → Prop} (hk : k ≤ 1000) (p : P (h ^^^ 2 ^ k) c) : acrW h k c P := by
  rw [acrW_eq]
  exact ⟨⟨rfl, by omega⟩, p⟩
/-- the last one of a way's bits -/
def lstK (q d j : Nat) : Nat := (cl q d j).getLast (cl_ne q d j)
theorem lstK_lt {q d j : Nat} (hj : j < q) : lstK q d j < q := cl_lt hj (List.getLast_mem _)
theorem arq_w {q j k c : Nat} {P : Nat → Nat → Prop} (hq : 0 < q) (p : P (((k : Int) - j) % q).toNat c) : arqW q j k c P := by
  rw [arqW_eq]
  exact ⟨by show (0 : Int) < (q : Int); omega, Int.emod_nonneg _ (by show (q : Int) ≠ 0; omega), p⟩

theorem wte_w {beat : List TT} {at_ c : Nat} {d : Dct (Nat × Nat) Int} {F : KF} {P : Option Nat → Nat → Prop} (hF : ∀ k, dGet d.l k = F k) (hb : beat.length ≤ 1000000) (p : P (wrG F at_ beat []) c) : wteW beat at_ d c P := by
  rw [wteW_eq]
  refine forW_inv (fun i s n => n = c ∧ s.l.length ≤ i ∧ ∃ hs : List Nat, (∀ x, (kGet s.l x).isSome = true ↔ x ∈ hs) ∧ wrG F at_ beat [] = wrG F at_ (beat.drop i) hs) ⟨rfl, Nat.zero_le _, [], fun x => ⟨fun h => (by cases h), fun h => (by cases h)⟩, by rw [List.drop_zero]⟩ ?_ ?_
  · rintro i t s n e ⟨rfl, hl, hs, hk, he⟩ Q q1 q2 q3
    have hi := (List.getElem?_eq_some_iff.mp e).1
    have hd : beat.drop i = t :: beat.drop (i + 1) := by
      rw [List.drop_eq_getElem_cons hi]
      congr 1
      exact Option.some.inj ((List.getElem?_eq_getElem hi).symm.trans e)
    rw [hd, wrG_cons] at he
    refine or_w (x := decide (t.a = t.b)) (y := (kGet s.l t.b).isSome) (fun Q z => z) (fun _ Q z => z) ?_
    have hb' : (decide (t.a = t.b) || (kGet s.l t.b).isSome) = true ↔ t.a = t.b ∨ t.b ∈ hs := by
      rw [Bool.or_eq_true, decide_eq_true_iff, hk]
    generalize (decide (t.a = t.b) || (kGet s.l t.b).isSome) = b at hb' ⊢
    refine seq_if (fun h => ?_) fun h => ?_
    · subst h
      rw [if_pos (hb'.mp rfl)] at he
      exact q2 _ _ (by rw [he] at p; exact p)
    · subst h
      rw [if_neg fun z => Bool.noConfusion (hb'.mpr z)] at he
      show seqW (if decide ((at_ : Int) ≤ (dGet d.l (t.a, t.c)).getD (at_ : Int)) = true then _ else _) _ _ _
      rw [hF]
      refine seq_if (fun h => ?_) fun h => ?_
      · rw [if_pos (of_decide_eq_true h)] at he
        exact q2 _ _ (by rw [he] at p; exact p)
      · rw [if_neg (of_decide_eq_false h)] at he
        have h24 : sizeLine = 16777216 := rfl
        refine ⟨by show s.l.length < sizeLine; omega, q1 _ _ ⟨rfl, ?_, t.b :: hs, fun x => ?_, he⟩⟩
        · exact Nat.le_trans kPut_len (by omega)
        · show (kGet (kPut s.l t.b true) x).isSome = true ↔ _
          rw [kGet_put]
          by_cases hx : t.b = x
          · rw [if_pos hx]
            exact ⟨fun _ => by rw [hx]; exact List.mem_cons_self, fun _ => rfl⟩
          · rw [if_neg hx, hk x]
            exact ⟨fun z => List.mem_cons_of_mem _ z, fun z => (List.mem_cons.mp z).resolve_left fun w => hx w.symm⟩
  · rintro s n ⟨rfl, hl, hs, hk, he⟩
    rw [List.drop_length, wrG_nil] at he
    rw [he] at p
    exact p
theorem ouc_w {hands m c : Nat} {d : Dct (Nat × Nat) Int} {F : KF} {P : Vd → Nat → Prop} (hF : ∀ k, dGet d.l k = F k) (hh : hands < 2 ^ 61) (hm : m < 2 ^ 61) (p : P (ouG hands m F) c) : oucW hands m d c P := by
  rw [oucW_eq]
  refine ⟨by show hands < 4611686018427387904; omega, ?_⟩
  refine forW_inv (fun i last n => n = c ∧ ouG hands m F = ouR F last (((List.range hands).drop i).flatMap fun h => (List.range m).map fun i => (h, i))) ⟨rfl, by rw [List.drop_zero]; rfl⟩ ?_ ?_
  · rintro i h last n e ⟨rfl, he⟩ Q q1 q2 q3
    have hi := (List.getElem?_eq_some_iff.mp e).1
    have hd : (List.range hands).drop i = h :: (List.range hands).drop (i + 1) := by
      rw [List.drop_eq_getElem_cons hi]
      congr 1
      exact Option.some.inj ((List.getElem?_eq_getElem hi).symm.trans e)
    rw [hd, List.flatMap_cons] at he
    refine ⟨by show m < 4611686018427387904; omega, ?_⟩
    refine forW_inv (fun j last' n' => n' = n ∧ ouG hands m F = ouR F last' ((((List.range m).drop j).map fun i => (h, i)) ++ ((List.range hands).drop (i + 1)).flatMap fun h => (List.range m).map fun i => (h, i))) ⟨rfl, by rw [List.drop_zero]; exact he⟩ ?_ ?_
    · rintro j x last' n' e' ⟨rfl, he'⟩ Q' r1 r2 r3
      have hj := (List.getElem?_eq_some_iff.mp e').1
      have hd' : (List.range m).drop j = x :: (List.range m).drop (j + 1) := by
        rw [List.drop_eq_getElem_cons hj]
        congr 1
        exact Option.some.inj ((List.getElem?_eq_getElem hj).symm.trans e')
      rw [hd', List.map_cons, List.cons_append, ouR_cons] at he'
      show seqW (if (!(dGet d.l (h, x)).isSome) = true then _ else _) _ _ _
      rw [hF]
      cases ef : F (h, x) with
      | none =>
        rw [ef] at he'
        refine seq_yes rfl (r2 _ _ ?_)
        rw [he'] at p
        exact q2 _ _ p
      | some v =>
        rw [ef] at he'
        refine seq_no rfl ⟨v, by rw [hF]; exact ef, r1 _ _ ⟨rfl, he'⟩⟩
    · rintro s n' ⟨rfl, he'⟩
      rw [List.drop_length, List.map_nil, List.nil_append] at he'
      exact q1 _ _ ⟨rfl, he'⟩
  · rintro last n ⟨rfl, he⟩
    rw [List.drop_length, List.flatMap_nil, ouR_nil] at he
    rw [he] at p
    exact p
/-- how many tellings there are -/
def tlN : List (List TT) → Nat
  | [] => 0
  | b :: bs => b.length + tlN bs
theorem set_all {at_ : Nat} {F : KF} : ∀ (beat : List TT) (l : List ((Nat × Nat) × Int)), (∀ k, dGet l k = F k) → ∀ k, dGet (beat.foldl (fun l t => dSet l (t.b, t.c) (at_ : Int)) l) k = nxG F at_ beat k
  | [], l, h, k => by
    show dGet l k = match F k with | some v => some v | none => none
    rw [h]
    cases F k <;> rfl
  | t :: ts, l, h, k => by
    have z := set_all (at_ := at_) (F := fun j => dGet (dSet l (t.b, t.c) (at_ : Int)) j) ts (dSet l (t.b, t.c) (at_ : Int)) (fun _ => rfl) k
    rw [List.foldl_cons, z]
    unfold nxG
    dsimp only
    rw [dGet_set, h, List.any_cons]
    cases F k with
    | some v => rfl
    | none =>
      by_cases e : (t.b, t.c) = k
      · rw [if_pos e, decide_eq_true e]; rfl
      · rw [if_neg e, decide_eq_false e]; rfl
theorem jud_w {hands m s c : Nat} {plan : List (List TT)} {P : Vd → Nat → Prop} (hh : hands < 2 ^ 61) (hm : m ≤ 1000000) (hl : tlN plan ≤ 1000000) (p : P (judG hands m plan s) c) : judW hands m plan s c P := by
  rw [judW_eq]
  have h24 : sizeLine = 16777216 := rfl
  refine ⟨by show m < 4611686018427387904; omega, by rw [List.length_range]; omega, ?_⟩
  refine dcW_inv (fun i acc n => n = c ∧ acc.length ≤ i ∧ ∀ k, dGet acc k = F0 s i k) ⟨rfl, Nat.le_refl 0, fun k => ?_⟩ ?_ ?_
  · unfold F0
    rw [if_neg (by omega)]
    rfl
  · rintro i a acc n e ⟨rfl, hl, hk⟩ Q q
    have e2 : i = a := (rgAt e).2.symm
    subst e2
    refine (show Q (dPut acc (s, i) (-1)) n from q _ _ ⟨rfl, Nat.le_trans dPut_len (Nat.succ_le_succ hl), fun k => ?_⟩)
    rw [dGet_put]
    obtain ⟨k1, k2⟩ := k
    unfold F0
    by_cases h : (s, i) = (k1, k2)
    · cases h
      rw [if_pos rfl, if_pos ⟨rfl, by omega⟩]
    · rw [if_neg h, hk]
      unfold F0
      by_cases h2 : k1 = s ∧ k2 < i
      · rw [if_pos h2, if_pos ⟨h2.1, by have := h2.2; dsimp only at *; omega⟩]
      · rw [if_neg h2, if_neg fun z => h2 ⟨z.1, ?_⟩]
        have z1 := z.1
        have z2 := z.2
        dsimp only at z1 z2 ⊢
        by_cases e : k2 = i
        · exact absurd (by rw [z1, e]) h
        · omega
  rintro acc n ⟨rfl, ha, hk⟩
  rw [List.length_range] at ha hk
  show seqW _ _ _ _
  have hpre : ∀ (bs : List (List TT)) (i : Nat), plan.drop i = bs → tlN bs ≤ tlN plan ∧ ∀ b ∈ bs, b.length ≤ tlN plan := fun bs i e => by
    have all : ∀ (l : List (List TT)) i, tlN (l.drop i) ≤ tlN l := fun l => by
      induction l with
      | nil => intro i; rw [List.drop_nil]; exact Nat.le_refl _
      | cons x l ih =>
        intro i
        cases i with
        | zero => exact Nat.le_refl _
        | succ i =>
          have := ih i
          show tlN (l.drop i) ≤ x.length + tlN l
          omega
    have one : ∀ (l : List (List TT)), ∀ b ∈ l, b.length ≤ tlN l := fun l => by
      induction l with
      | nil => intro b hb; cases hb
      | cons x l ih =>
        intro b hb
        show b.length ≤ x.length + tlN l
        rcases List.mem_cons.mp hb with z | z
        · rw [z]; omega
        · have := ih b z; omega
    have h1 := all plan i
    rw [e] at h1
    exact ⟨h1, fun b hb => Nat.le_trans (one bs b hb) h1⟩
  refine forW_inv (fun i d n' => n' = n ∧ d.l.length + tlN (plan.drop i) ≤ m + tlN plan ∧ ∃ F : KF, (∀ k, dGet d.l k = F k) ∧ judG hands m plan s = jdG hands m (plan.drop i) i F) ⟨rfl, by rw [List.drop_zero]; show acc.length + _ ≤ _; omega, F0 s m, hk, by rw [List.drop_zero]; rfl⟩ ?_ ?_
  · rintro i ⟨a, beat⟩ d n' e ⟨rfl, hlen, F, hF, he⟩ Q q1 q2 q3
    obtain ⟨ei, hb⟩ := enAt e
    have ei : i = a := ei.symm
    subst ei
    have hi := (List.getElem?_eq_some_iff.mp hb).1
    have hd : plan.drop i = beat :: plan.drop (i + 1) := by
      rw [List.drop_eq_getElem_cons hi]
      congr 1
      exact Option.some.inj ((List.getElem?_eq_getElem hi).symm.trans hb)
    obtain ⟨h1, h2⟩ := hpre _ i hd
    have hbl := h2 beat List.mem_cons_self
    rw [hd] at he hlen
    rw [jdG_cons] at he
    have hb6 : beat.length ≤ 1000000 := Nat.le_trans hbl hl
    refine wte_w hF hb6 ?_
    generalize wrG F i beat [] = o at he ⊢
    show seqW (if (!o.isNone) = true then _ else _) _ _ _
    refine seq_if (fun h => ?_) fun h => ?_
    · cases o with
      | none => cases h
      | some x =>
        refine ⟨x, rfl, q2 _ _ ?_⟩
        have he : judG hands m plan s = .wrong i x := he
        rw [he] at p
        exact p
    · have eo : o = none := by
        cases o with
        | none => rfl
        | some x => cases h
      subst eo
      have he : judG hands m plan s = jdG hands m (plan.drop (i + 1)) (i + 1) (nxG F i beat) := he
      have hl2 : d.l.length + (beat.length + tlN (plan.drop (i + 1))) ≤ m + tlN plan := hlen
      refine seq_for (fun j d' n'' => n'' = n' ∧ d'.l.length ≤ d.l.length + j ∧ d'.l = (beat.take j).foldl (fun l t => dSet l (t.b, t.c) (i : Int)) d.l) ⟨rfl, Nat.le_refl _, by rw [List.take_zero]; rfl⟩ ?_ ?_
      · rintro j t d' n'' e' ⟨rfl, hl', ed⟩ Q' r1
        have hj : j < beat.length := (List.getElem?_eq_some_iff.mp e').1
        refine ⟨by show d'.l.length < sizeLine; omega, r1 _ _ ⟨rfl, Nat.le_trans dSet_len (by omega), ?_⟩⟩
        show dSet d'.l (t.b, t.c) (i : Int) = _
        have ht : beat.take (j + 1) = beat.take j ++ [t] := by
          rw [List.take_succ, e']; rfl
        rw [ht, List.foldl_append, ed]
        rfl
      · rintro d' n'' ⟨rfl, hl', ed⟩
        have hl' : d'.l.length ≤ d.l.length + beat.length := hl'
        have ed : d'.l = (beat.take beat.length).foldl (fun l t => dSet l (t.b, t.c) (i : Int)) d.l := ed
        rw [List.take_length] at ed
        refine q1 _ _ ⟨rfl, by omega, nxG F i beat, fun k => ?_, he⟩
        rw [ed]
        exact set_all beat d.l hF k
  · rintro d n' ⟨rfl, hlen, F, hF, he⟩
    rw [enW_len, List.drop_length, jdG_nil] at he
    refine ouc_w hF hh (by omega) ?_
    rw [he] at p
    exact p

theorem nxb_w {q d k c : Nat} {P : Option Nat → Nat → Prop} (hq : 0 < q) (hq6 : q ≤ 60) (hd : d < 2 ^ q) (hk : k < q) (b : d.testBit k = true) (p : P (some (trF q d k)) c) : nxbW q d k c P := by
  rw [nxbW_eq]
  have h0 : d ≠ 0 := fun z => by rw [z, Nat.zero_testBit] at b; cases b
  refine seq_skip (decide_eq_false h0) ⟨⟨hq, hq6, hd⟩, trF q d k, ?_, p⟩
  rw [← List.head?_eq_getElem?]
  exact trF_head hk b
theorem tra_w {q h t s c : Nat} {P : Nat → Nat → Prop} (hq : 0 < q) (hq6 : q ≤ 60) (hh : h < 2 ^ q) (hs : s < 2 ^ q) (p : P (trF q (h ^^^ s) (t % q)) c) : traW q h t s c P := by
  rw [traW_eq]
  have hd : h ^^^ s < 2 ^ q := Nat.xor_lt_two_pow hh hs
  have hk := Nat.mod_lt t hq
  refine ⟨hq, hab_w ?_⟩
  cases b : (h ^^^ s).testBit (t % q) with
  | true => exact seq_yes rfl (nxb_w hq hq6 hd hk b ⟨_, rfl, p⟩)
  | false =>
    rw [trF_out b] at p
    exact seq_no rfl p
theorem lea_w {q h t s c : Nat} {P : Int → Nat → Prop} (hq : 0 < q) (hq6 : q ≤ 60) (hh : h < 2 ^ q) (hs : s < 2 ^ q) (p : P ((t : Int) - (ltF q (h ^^^ s) (t % q) : Nat)) c) : leaW q h t s c P := by
  rw [leaW_eq]
  have hd : h ^^^ s < 2 ^ q := Nat.xor_lt_two_pow hh hs
  have hk := Nat.mod_lt t hq
  refine ⟨hq, hab_w ?_⟩
  cases b : (h ^^^ s).testBit (t % q) with
  | true =>
    refine seq_yes rfl (tra_w hq hq6 hh hs (arq_w hq ?_))
    have e := ltF_in hq b
    unfold ar at e
    rw [show (((((t % q : Nat) : Int) - (trF q (h ^^^ s) (t % q) : Nat)) % (q : Int)).toNat) = ltF q (h ^^^ s) (t % q) by omega]
    exact p
  | false =>
    rw [ltF_out b] at p
    exact seq_no rfl p
theorem due_w {q m h t s c : Nat} {P : Option Nat → Nat → Prop} (hq : 0 < q) (hq6 : q ≤ 60) (hm : 0 < m) (hh : h < 2 ^ q) (hs : s < 2 ^ q) (p : P (duF q m (h ^^^ s) t) c) : dueW q m h t s c P := by
  rw [dueW_eq]
  refine lea_w hq hq6 hh hs ?_
  unfold duF at p
  by_cases lt : t < ltF q (h ^^^ s) (t % q)
  · rw [if_pos lt] at p
    exact seq_yes (decide_eq_true (show (t : Int) - (ltF q (h ^^^ s) (t % q) : Nat) < ((0 : Nat) : Int) by omega)) p
  · rw [if_neg lt] at p
    refine seq_skip (decide_eq_false (show ¬ (t : Int) - (ltF q (h ^^^ s) (t % q) : Nat) < ((0 : Nat) : Int) by omega)) ⟨hm, ?_, ?_⟩
    · show (0 : Int) ≤ min ((t : Int) - (ltF q (h ^^^ s) (t % q) : Nat)) ((m - 1 : Nat) : Int)
      omega
    · show P (some (min ((t : Int) - (ltF q (h ^^^ s) (t % q) : Nat)) ((m - 1 : Nat) : Int)).toNat) c
      rw [show (min ((t : Int) - (ltF q (h ^^^ s) (t % q) : Nat)) ((m - 1 : Nat) : Int)).toNat = min (t - ltF q (h ^^^ s) (t % q)) (m - 1) by omega]
      exact p
theorem tol_w {q m h t s c : Nat} {P : Option (Nat × Nat) → Nat → Prop} (hq : 0 < q) (hq6 : q ≤ 60) (hm : 0 < m) (hh : h < 2 ^ q) (hs : s < 2 ^ q) (p : P ((duF q m ((h ^^^ 2 ^ (t % q)) ^^^ s) t).map fun i => (h ^^^ 2 ^ (t % q), i)) c) : tolW q m h t s c P := by
  rw [tolW_eq]
  have hk := Nat.mod_lt t hq
  refine ⟨hq, acr_w (by omega) (due_w hq hq6 hm (Nat.xor_lt_two_pow hh (Nat.pow_lt_pow_right (by decide) hk)) hs ?_)⟩
  generalize duF q m ((h ^^^ 2 ^ (t % q)) ^^^ s) t = o at p ⊢
  show seqW (if o.isNone = true then _ else _) _ _ _
  refine seq_if (fun e => ?_) fun e => ?_
  · cases o with
    | none => exact p
    | some i => cases e
  · cases o with
    | none => cases e
    | some i => exact ⟨i, rfl, p⟩
theorem tls_w {q m t s c : Nat} {P : List TT → Nat → Prop} (hq : 0 < q) (hq6 : q ≤ 20) (hm : 0 < m) (hs : s < 2 ^ q) (p : P (plF q m s t) c) : tlsW q m t s c P := by
  rw [tlsW_eq]
  have h24 : sizeLine = 16777216 := rfl
  have h20 : 2 ^ q ≤ 2 ^ 20 := Nat.pow_le_pow_right (by decide) hq6
  have h20' : (2 : Nat) ^ 20 = 1048576 := by decide
  refine ⟨by show 0 ≤ sizeLine; omega, ⟨rfl, by omega⟩, by show 2 ^ q < 4611686018427387904; omega, ?_⟩
  refine seq_for (fun i (s' : Lst TT) n => n = c ∧ s'.l.length ≤ i ∧ s'.l = ((List.range (2 ^ q)).take i).filterMap fun h => (duF q m ((h ^^^ 2 ^ (t % q)) ^^^ s) t).map fun j => (⟨h, h ^^^ 2 ^ (t % q), j⟩ : TT)) ⟨rfl, Nat.le_refl 0, by rw [List.take_zero]; rfl⟩ ?_ ?_
  · rintro i a s' n e ⟨rfl, hl, es⟩ Q q1
    obtain ⟨hi, ea⟩ := rgAt e
    have ht : (List.range (2 ^ q)).take (i + 1) = (List.range (2 ^ q)).take i ++ [a] := by rw [List.take_succ, e]; rfl
    refine tol_w hq (by omega) hm (by omega) hs ?_
    generalize eo : duF q m ((a ^^^ 2 ^ (t % q)) ^^^ s) t = o
    show seqW (if (!(o.map fun j => (a ^^^ 2 ^ (t % q), j)).isNone) = true then _ else _) _ _ _
    refine seq_if (fun e2 => ?_) fun e2 => ?_
    · cases o with
      | none => cases e2
      | some j =>
        refine ⟨_, rfl, by show s'.l.length < sizeLine; omega, q1 _ _ ⟨rfl, ?_, ?_⟩⟩
        · show (s'.l ++ [_]).length ≤ i + 1
          rw [List.length_append, List.length_singleton]; omega
        · show s'.l ++ [(⟨a, a ^^^ 2 ^ (t % q), j⟩ : TT)] = _
          rw [ht, List.filterMap_append, ← es, List.filterMap_cons, eo]
          rfl
    · cases o with
      | none =>
        refine q1 _ _ ⟨rfl, by omega, ?_⟩
        rw [ht, List.filterMap_append, ← es, List.filterMap_cons, eo]
        exact (List.append_nil _).symm
      | some j => cases e2
  · rintro s' n ⟨rfl, hl, es⟩
    rw [List.take_length] at es
    show P s'.l n
    rw [es]
    exact p
theorem ende_w {q m c : Nat} {P : Nat → Nat → Prop} (hm : 0 < m) (p : P (m - 1 + q) c) : endeW q m c P := by
  rw [endeW_eq]
  exact ⟨hm, p⟩
theorem pla_w {q m s c : Nat} {P : List (List TT) → Nat → Prop} (hq : 0 < q) (hq6 : q ≤ 20) (hm : 0 < m) (hm9 : m ≤ 1000000) (hs : s < 2 ^ q) (p : P ((List.range (m - 1 + q)).map (plF q m s)) c) : plaW q m s c P := by
  rw [plaW_eq]
  have h24 : sizeLine = 16777216 := rfl
  refine ende_w hm ⟨by show m - 1 + q < 4611686018427387904; omega, by rw [List.length_range]; omega, ?_⟩
  exact lcW_map (fun i a n e Q z => tls_w hq hq6 hm hs z) p
theorem bou_w {h m c : Nat} {P : Nat → Nat → Prop} (hm : 0 < m) (hh : 0 < h) (p : P (m - 1 + lnF (h - 1)) c) : bouW h m c P := by
  rw [bouW_eq]
  exact ⟨hm, hh, p⟩
theorem two_w {k c : Nat} {P : Nat → Nat → Prop} (hk : k ≤ 6) (p : P (2 ^ k) c) : twoW k c P := by
  rw [twoW_eq]
  refine ⟨by show 7 ≤ sizeLine; decide, 2 ^ k, ?_, p⟩
  match k, hk with
  | 0, _ => rfl
  | 1, _ => rfl
  | 2, _ => rfl
  | 3, _ => rfl
  | 4, _ => rfl
  | 5, _ => rfl
  | 6, _ => rfl
theorem pl_len {q m s t : Nat} : (plF q m s t).length ≤ 2 ^ q := by
  unfold plF
  exact Nat.le_trans (List.length_filterMap_le _ _) (Nat.le_of_eq List.length_range)
theorem tlN_map {f : Nat → List TT} {k : Nat} (h : ∀ t, (f t).length ≤ k) : ∀ xs : List Nat, tlN (xs.map f) ≤ k * xs.length
  | [] => Nat.le_refl _
  | x :: xs => by
    have := tlN_map h xs
    have := h x
    show (f x).length + tlN (xs.map f) ≤ k * (xs.length + 1)
    rw [Nat.mul_add]
    omega

end Bf
namespace Bf
open PySem PySem.Spec PyProof.Rows L2 LamX NdefX
theorem dbl_all : ∀ n, n < 65 → 2 ≤ n → n ≤ 2 ^ lnF (n - 1) ∧ 2 ^ lnF (n - 1) < 2 * n := by decide +kernel
theorem dbl_w {n c : Nat} {P : Nat → Nat → Prop} (h2 : 2 ≤ n) (h64 : n < 65) (p : P (lnF (n - 1)) c) : dblW n c P := by
  rw [dblW_eq]
  obtain ⟨e1, e2⟩ := dbl_all n h64 h2
  refine seq_while (fun m (s : Nat × Nat) c' => c' = c ∧ s.2 = 2 ^ s.1 ∧ s.1 ≤ lnF (n - 1) ∧ m = lnF (n - 1) - s.1) (lnF (n - 1)) ⟨rfl, rfl, Nat.zero_le _, rfl⟩ ?_
  rintro m ⟨f, a⟩ c' ⟨rfl, ea, hf, em⟩
  have ea : a = 2 ^ f := ea
  have hf : f ≤ lnF (n - 1) := hf
  have em : m = lnF (n - 1) - f := em
  show if decide (a < n) = true then _ else _
  by_cases h : a < n
  · rw [decide_eq_true h, if_pos rfl]
    have lt : f < lnF (n - 1) := by
      rcases Nat.lt_or_ge f (lnF (n - 1)) with z | z
      · exact z
      · have := Nat.pow_le_pow_right (show 0 < 2 by decide) z
        omega
    refine ⟨lnF (n - 1) - (f + 1), by omega, rfl, ?_, lt, rfl⟩
    show a + a = 2 ^ (f + 1)
    rw [ea, Nat.pow_succ]
    omega
  · rw [decide_eq_false h, if_neg (by decide)]
    have e : f = lnF (n - 1) := by
      rcases Nat.lt_or_ge f (lnF (n - 1)) with z | z
      · have := Nat.pow_le_pow_right (show 0 < 2 by decide) z
        rw [Nat.pow_succ] at this
        omega
      · omega
    show P f c'
    rw [e]
    exact p
theorem rngAt2 {a b i x : Nat} (h : (rng2 a b)[i]? = some x) : a ≤ x ∧ x < b := by
  unfold rng2 at h
  rw [List.getElem?_map, Option.map_eq_some_iff] at h
  obtain ⟨y, hy, rfl⟩ := h
  obtain ⟨h1, h2⟩ := rgAt hy
  omega
theorem law_win (ns : List Int) (hl : ns.length ≤ 63) : outW (lawB ns) 0 fun r _ => r = true := by
  refine ⟨by show max 1 (min 2 ns.length) < 4611686018427387904; omega, ?_⟩
  refine seq_for (fun _ _ _ => True) trivial ?_ ?_
  · rintro k a ⟨⟩ n e _ Q q
    obtain ⟨ha, rfl⟩ := rgAt e
    refine ⟨⟨hl, by omega⟩, ⟨⟨by decide, by decide, by decide⟩, fun r hr => ?_⟩⟩
    refine ⟨⟨by decide, by decide⟩, ?_⟩
    refine seq_for (fun _ _ n' => n' = 1) rfl ?_ ?_
    · rintro i z ⟨⟩ n' ez rfl Q' q'
      obtain ⟨z1, z2⟩ := rngAt2 ez
      refine ⟨by show 3 ≤ sizeLine; decide, ?_⟩
      refine seq_for (fun _ _ n' => n' = 1) rfl ?_ ?_
      · rintro j long ⟨⟩ n'' el rfl Q2 q2
        have hlong : 1 ≤ long ∧ long ≤ 60 := by
          have := List.mem_of_getElem? el
          rcases List.mem_cons.mp this with rfl | this
          · omega
          rcases List.mem_cons.mp this with rfl | this
          · omega
          rw [List.mem_singleton.mp this]
          show 1 ≤ 1 + r ∧ 1 + r ≤ 60
          omega
        have small : lnF (z - 1) ≤ 64 := by
          have : ∀ n, n < 65 → lnF n ≤ 64 := by decide +kernel
          exact this _ (by omega)
        refine bou_w (by omega) (by omega) ⟨by omega, by omega, dbl_w z1 z2 ⟨by omega, ?_⟩⟩
        exact seq_skip (by rw [decide_eq_true rfl]; rfl) (q2 _ _ rfl)
      · rintro ⟨⟩ n'' rfl
        exact q' _ _ rfl
    rintro ⟨⟩ n' rfl
    refine ⟨⟨by decide, by decide, by decide⟩, fun r1 h1 => ⟨⟨by decide, by decide, by decide⟩, fun r2 h2 => ⟨⟨by decide, by decide, by decide⟩, fun r3 h3 => ?_⟩⟩⟩
    have hq : 0 < 1 + r1 := by omega
    have hq6 : 1 + r1 ≤ 20 := by omega
    have hm : 0 < 1 + r3 := by omega
    have hm9 : 1 + r3 ≤ 1000000 := by omega
    have h2q : 2 ≤ 2 ^ (1 + r1) := by
      have : 2 ^ 1 ≤ 2 ^ (1 + r1) := Nat.pow_le_pow_right (by decide) (by omega)
      exact this
    have h8 : 2 ^ (1 + r1) ≤ 8 := by
      have : 2 ^ (1 + r1) ≤ 2 ^ 3 := Nat.pow_le_pow_right (by decide) (by omega)
      exact this
    have hs : r2 < 2 ^ (1 + r1) := by omega
    have h0s : 0 < 2 ^ (1 + r1) := by omega
    have few : ∀ s, tlN ((List.range (1 + r3 - 1 + (1 + r1))).map (plF (1 + r1) (1 + r3) s)) ≤ 1000000 := fun s => by
      have := tlN_map (f := plF (1 + r1) (1 + r3) s) (k := 8) (fun t => Nat.le_trans pl_len h8) (List.range (1 + r3 - 1 + (1 + r1)))
      rw [List.length_range] at this
      omega
    refine pla_w hq hq6 hm hm9 hs ?_
    refine or_w (x := false) (y := false) (fun Q z => pla_w hq hq6 hm hm9 hs ⟨⟨shp _, shp _⟩, ?_⟩) (fun _ Q z => pla_w hq hq6 hm hm9 h0s (pla_w hq hq6 hm hm9 h0s ⟨⟨shp _, shp _⟩, ?_⟩)) ?_
    · show Q (!PyData.eqv _ _) _
      rw [eqv_t rfl]
      exact z
    · show Q (!PyData.eqv _ _) _
      rw [eqv_t rfl]
      exact z
    refine seq_no rfl ?_
    refine two_w (by omega) ?_
    refine jud_w (by omega) (by omega) (few _) (jud_w (by omega) (by omega) (few _) ⟨⟨shp _, shp _⟩, ?_⟩)
    generalize judG (2 ^ (1 + r1)) (1 + r3) ((List.range (1 + r3 - 1 + (1 + r1))).map (plF (1 + r1) (1 + r3) r2)) r2 = v
    show seqW (if (!PyData.eqv (enc v) (enc v)) = true then _ else _) _ _ _
    refine seq_skip (by rw [eqv_t rfl]; rfl) ?_
    refine or_w (x := false) (y := false) (fun Q z => bou_w hm h0s (bou_w hm h0s ?_)) (fun _ Q z => pla_w hq hq6 hm hm9 h0s (jud_w (by omega) (by omega) (few _) ?_)) ?_
    · show Q (!decide (_ = _)) _
      rw [decide_eq_true rfl]
      exact z
    · rw [pl_done hq hm h0s]
      exact z
    exact seq_no rfl (q _ _ trivial)
  · rintro ⟨⟩ n _
    rfl

end Bf
namespace Bf
open PySem PySem.Spec PyProof.Rows L2 LamX
/-- what is tracked at the law's call: the tables ts, empty; the script at a, locked, where it isn't written -/
def G0 (K : PySem.W.Frag) (ts : List Addr) (a : Addr) (ob : Obj) (xs : List V) : Hp := fun b =>
  if b ∈ ts then some (.tbl #[]) else if b = a ∧ (K.lookup a).isNone = true then some (.frz ob (.lst xs)) else none
section
variable {K : PySem.W.Frag} {ts : List Addr} {a b : Addr} {ob : Obj} {xs : List V}
theorem g0_tab (h : b ∈ ts) : G0 K ts a ob xs b = some (.tbl #[]) := if_pos h
theorem g0_scr (h : a ∉ ts) (n : K.lookup a = none) : G0 K ts a ob xs a = some (.frz ob (.lst xs)) := (if_neg h).trans (if_pos ⟨rfl, by rw [n]; rfl⟩)
theorem g0_some {u : HO} (h : G0 K ts a ob xs b = some u) : (b ∈ ts ∧ u = .tbl #[]) ∨ (b ∉ ts ∧ b = a ∧ K.lookup a = none ∧ u = .frz ob (.lst xs)) := by
  unfold G0 at h
  by_cases m : b ∈ ts
  · rw [if_pos m] at h
    exact .inl ⟨m, (Option.some.inj h).symm⟩
  · rw [if_neg m] at h
    by_cases c : b = a ∧ (K.lookup a).isNone = true
    · rw [if_pos c] at h
      exact .inr ⟨m, c.1, Option.isNone_iff_eq_none.mp c.2, (Option.some.inj h).symm⟩
    · rw [if_neg c] at h
      cases h
end
theorem law_tabs {P : Program} {w : World} {K : PySem.W.Frag} {mg mb : Str → Option Value} {k : Nat} {fa a : Addr} {cs : List (Addr × Addr)} {fd : FuncData} {x : Str} {sp : Sp} {z : Shared} {vs : List Value} {ns : List Int}
    (KI : K.In z.heap) (n1 : z.heap.Ns mainGlobals mg) (n2 : z.heap.Ns builtinsNs mb) (n3 : ∀ y : Str, y ≠ "__name__" → mb y = bootBuiltins y) (n4 : z.heap.NoLimit) (n5 : z.gens = #[])
    (t1 : ∀ p ∈ cs, z.heap.get? p.2 = some { cls := .none, data := .fields #[] }) (t2 : ∀ p ∈ cs, K.lookup p.2 = none) (t3 : ∀ p ∈ cs, PySem.W.CodeHd z.heap p.1 p.2)
    (t4 : ∃ (bm : Addr) (ob : Obj), mg "__builtins__" = some (.ref bm) ∧ bm ≠ builtinsNs ∧ z.heap.get? bm = some ob ∧ ob.cls = .type "module" ∧ ob.dict = some builtinsNs ∧ ob.data = .plain)
    (oa : z.heap.get? a = some { cls := .type "list", data := .seq vs.toArray }) (ia : IntsAre vs ns) (la : ns.length ≤ sizeLine) (rm : Room k callerA)
    (F : ∀ base : Heap, K.In base → base.Ns mainGlobals mg → (∀ p ∈ cs, TabB base mg p.1 p.2) → FnG P w K mg base k fa fd [x] sp) (bd : ∀ (s : Shared) (u : Value), BindsTo s fd ⟨[u], []⟩ [(x, u)])
    (hs : ∀ G : Hp, (∀ p ∈ cs, G p.2 = some (.tbl #[])) → SqL K G a (ns.map V.int) → sp [.ref a] G (fun v _ => v = .bl true) fun _ _ _ => False) :
    codeAny (model P w) callerA (.call (.ref fa) ⟨[.ref a], []⟩) (fun r y => r = .ok (.ret (.bool true)) ∧ OldK z.heap y.heap ∧ y.os = z.os ∧ AllBare y.gens) z := by
  have tm : ∀ b ∈ cs.map (·.2), ∃ p ∈ cs, p.2 = b := fun b h => by
    obtain ⟨p, hp, e⟩ := List.mem_map.mp h
    exact ⟨p, hp, e⟩
  have nat : a ∉ cs.map (·.2) := fun h => by
    obtain ⟨p, hp, e⟩ := tm a h
    have q := t1 p hp
    rw [e, oa] at q
    cases q
  generalize hG : G0 K (cs.map (·.2)) a { cls := .type "list", data := .seq vs.toArray } (ns.map V.int) = G
  have some' : ∀ {b u}, G b = some u → (b ∈ cs.map (·.2) ∧ u = .tbl #[]) ∨ (b ∉ cs.map (·.2) ∧ b = a ∧ K.lookup a = none ∧ u = .frz { cls := .type "list", data := .seq vs.toArray } (.lst (ns.map V.int))) := fun {b u} h => g0_some (hG ▸ h)
  have tabG : ∀ p ∈ cs, G p.2 = some (.tbl #[]) := fun p hp => hG ▸ g0_tab (List.mem_map.mpr ⟨p, hp, rfl⟩)
  have rv := vals_ints ia
  have sq : SqL K G a (ns.map V.int) := by
    cases e : K.lookup a with
    | none => exact .inl (.inr ⟨_, hG ▸ g0_scr nat e⟩)
    | some o =>
      have q := KI a o e
      rw [oa] at q
      cases q
      exact .inr ⟨_, vs.toArray, _, e, rfl, rfl, rfl, by rw [List.size_toArray, ia.length]; exact la, by simpa using rv⟩
  have ok : HOk P w G z.heap := fun b u e => by
    rcases some' e with ⟨m, rfl⟩ | ⟨_, rfl, _, rfl⟩
    · obtain ⟨p, hp, rfl⟩ := tm b m
      exact t1 p hp
    · exact ⟨oa, by rw [List.length_map]; exact la, vs, _, rv, oa⟩
  -- what is neither a list nor an empty table isn't tracked
  have off : ∀ {b : Addr} {o : Obj}, z.heap.get? b = some o → (∀ us n, o.data ≠ .seq us n) → o.data ≠ .fields #[] → G b = none := fun {b o} e d1 d2 => by
    cases q : G b with
    | none => rfl
    | some u =>
      rcases some' q with ⟨m, _⟩ | ⟨_, rfl, _, _⟩
      · obtain ⟨p, hp, rfl⟩ := tm b m
        rw [t1 p hp] at e
        cases e
        exact (d2 rfl).elim
      · rw [oa] at e
        cases e
        exact (d1 _ _ rfl).elim
  have stay : ∀ {b : Addr} {o : Obj}, z.heap.get? b = some o → (∀ us n, o.data ≠ .seq us n) → o.data ≠ .fields #[] → (hidT z.heap G).get? b = some o := fun e d1 d2 => hidT_get e (off e d1 d2)
  have nsB : ∀ {b : Addr} {m : Str → Option Value}, z.heap.Ns b m → (hidT z.heap G).Ns b m := fun ⟨o, es, ep, e, d, r⟩ => ⟨o, es, ep, stay e (fun us n y => by rw [d] at y; cases y) (fun y => by rw [d] at y; cases y), d, r⟩
  have inB : K.In (hidT z.heap G) := fun b o e => hidT_get (KI b o e) (by
    cases q : G b with
    | none => rfl
    | some u =>
      rcases some' q with ⟨m, _⟩ | ⟨_, rfl, n, _⟩
      · obtain ⟨p, hp, rfl⟩ := tm b m
        rw [t2 p hp] at e
        cases e
      · rw [n] at e
        cases e)
  have tbB : ∀ p ∈ cs, TabB (hidT z.heap G) mg p.1 p.2 := fun p hp => by
    refine ⟨?_, ?_, fun y => ?_⟩
    · obtain ⟨o, us, file, tf, flags, tg, inF, text, tt, e1, r1, r2, r3, rest⟩ := t3 p hp
      refine ⟨o, us, file, tf, flags, tg, inF, text, tt, stay e1 (fun us n y => by rw [r2] at y; cases y) (fun y => ?_), r1, r2, r3, rest⟩
      rw [r2] at y
      cases y
      simp at r3
    · obtain ⟨bm, om, b1, b2, b3, b4, b5, b6⟩ := t4
      refine ⟨bm, om, b1, b2, fun y => ?_, fun y => ?_, stay b3 (fun us n y => by rw [b6] at y; cases y) (fun y => by rw [b6] at y; cases y), b4, b5, b6⟩
      · obtain ⟨o, es, ep, e, d, _⟩ := n1
        rw [y, e] at b3
        cases b3
        rw [d] at b6
        cases b6
      · rw [y, t1 p hp] at b3
        cases b3
        cases b6
    · obtain ⟨o, es, ep, e, d, _⟩ := n1
      rw [y, t1 p hp] at e
      cases e
      cases d
  have md : L2.Mod K mg (hidT z.heap G) := ⟨inB, nsB n1, ⟨mb, nsB n2, n3⟩, let ⟨mc, c1, c2⟩ := n4; ⟨mc, nsB c1, c2⟩⟩
  have en : Env0 P w K mg (hidT z.heap G) callerA [] z G := ⟨rfl, md, fun _ _ e => of_hidT e, Nat.le_of_eq (hidT_size _ _), trivial, (fun b h => absurd (show b ∈ ([] : List Addr) from h) List.not_mem_nil), ok, .of_eq n5⟩
  refine codeAny_mono ((F _ inB (nsB n1) tbB).go callerA [] z G ⟨[.ref a], []⟩ [.ref a] [.ref a] _ _ rfl rm en (bd z (.ref a)) (.cons rfl .nil) (hs G tabG sq)) fun r y h => ?_
  match r, h with
  | .error _, h => exact h.elim
  | .ok .next, h => exact False.elim h
  | .ok .brk, h => exact False.elim h
  | .ok .cont, h => exact False.elim h
  | .ok (.ret u), h =>
    obtain ⟨v, G', e1, e2, un, ok', r', q⟩ := h
    obtain rfl : v = .bl true := q
    obtain rfl : u = Value.bool true := r'
    -- an object that stood before: a table may have grown, all else is as it was
    have old : ∀ b o, z.heap.get? b = some o → (b ∈ cs.map (·.2) ∧ ∃ more : Array Value, y.heap.get? b = some { cls := .none, data := .fields more }) ∨ y.heap.get? b = some o := fun b o e => by
      cases q : G b with
      | none => exact .inr (un.keep b o e q (fun h => absurd (show b ∈ ([] : List Addr) from h) List.not_mem_nil) List.not_mem_nil)
      | some u =>
        rcases some' q with ⟨m, rfl⟩ | ⟨_, rfl, _, rfl⟩
        · obtain ⟨more, g⟩ := un.tbls b #[] q
          exact .inl ⟨m, _, ok' b _ g⟩
        · rw [oa] at e
          cases e
          exact .inr (ok' b _ (un.frzs b _ _ q)).1
    refine ⟨rfl, ⟨fun b o e => ?_, fun b o e => ?_⟩, e1, e2⟩
    · rcases old b o e with ⟨m, more, g⟩ | g
      · obtain ⟨p, hp, rfl⟩ := tm b m
        rw [t1 p hp] at e
        cases e
        exact .inr (.inl ⟨((t3 p hp).tab (t1 p hp)).isCodeTable, rfl, #[], more, rfl, by rw [Array.empty_append]; exact g⟩)
      · exact .inl g
    · rcases old b o e with ⟨_, more, g⟩ | g
      · exact ⟨_, g⟩
      · exact ⟨o, g⟩
theorem walkTG {l : PySem.W.OpenLaw} {n k : Nat} {q : Program} {loose : List Str} {XP : (Str → Option Value) → Heap → Prop} {YP : World → Heap → Prop} {d : DefRec} {x : Str} (hn : l.most = some n) (hn2 : n ≤ sizeLine) (hdf : d.params.defaults = []) (rm : Room k callerA)
    (F : ∀ (w : World) (mg : Str → Option Value) (fa : Addr) (h : Heap), YP w h → h.Ns mainGlobals mg → mg d.name = some (.ref fa) → ∃ (K : PySem.W.Frag) (fd : FuncData) (cs : List (Addr × Addr)) (sp : Sp), K.In h ∧
      (∀ p ∈ cs, h.get? p.2 = some { cls := .none, data := .fields #[] }) ∧ (∀ p ∈ cs, K.lookup p.2 = none) ∧ (∀ p ∈ cs, PySem.W.CodeHd h p.1 p.2) ∧ (∀ (s : Shared) (u : Value), BindsTo s fd ⟨[u], []⟩ [(x, u)]) ∧
      (∀ (H : Hp) (a : Addr) (ns : List Int), ns.length ≤ n → (∀ p ∈ cs, H p.2 = some (.tbl #[])) → SqL K H a (ns.map V.int) → sp [.ref a] H (fun v _ => v = .bl true) fun _ _ _ => False) ∧
      ∀ base : Heap, K.In base → base.Ns mainGlobals mg → (∀ p ∈ cs, TabB base mg p.1 p.2) → FnG l.prog w K mg base k fa fd [x] sp) : PySem.W.WalkO q loose XP YP l.row.toRowW d [] (fun f vs => PySem.call f vs) := by
  refine Att.attach_call hn hdf fun w s₀ s₁ mg mb fa o pm cd doc a vs ns G Y ho hd hcd hmg hobj hints hlen hg => ?_
  obtain ⟨K, fd, cs, sp, KX, t1, t2, t3, t4, t5, t6⟩ := F w mg fa _ Y G.T.g hmg
  exact law_tabs KX G.T.g G.T.b G.T.builtins G.T.nolimit hg t1 t2 t3 G.T.bmain hobj hints (Nat.le_trans hlen hn2) rm t6 t4 (fun H hH hS => t5 H a ns hlen hH hS)
end Bf
namespace Bf
open PySem PySem.Spec PyProof.Rows L2 LamX NdefX
theorem fun_of {K : PySem.W.Frag} {x : Str} {st : Stmt} {f : Addr} {fd : FuncData} (F : FunD K x x (defArgs st) (defBody st) (defScope st) [] [] f fd) : Fun K x x st f fd := by
  obtain ⟨oc, od, dV, kV, doc, pm, an, cdv, ct, osl, e, lk, hcd, hD, hK⟩ := F.ex
  rcases hD with ⟨_, rfl⟩ | ⟨z, _⟩
  · exact ⟨⟨oc, od, kV, doc, pm, an, cdv, ct, osl, e, lk, hcd⟩, F.kp⟩
  · exact absurd rfl z
theorem walkTE {l : PySem.W.OpenLaw} {n k : Nat} {q : Program} {loose : List Str} {XP : (Str → Option Value) → Heap → Prop} {YP : World → Heap → Prop} {d : DefRec} {x : Str} (hn : l.most = some n) (hn2 : n ≤ sizeLine) (hdf : d.params.defaults = []) (rm : Room k callerA)
    (F : ∀ (w : World) (mg : Str → Option Value) (fa : Addr) (h : Heap), YP w h → h.Ns mainGlobals mg → mg d.name = some (.ref fa) → ∃ K : PySem.W.Frag, K.In h ∧ LawAtS l w K CX0 k n x mg fa h) : PySem.W.WalkO q loose XP YP l.row.toRowW d [] (fun f vs => PySem.call f vs) := by
  refine Att.attach_callB hn hdf fun w s₀ s₁ mg mb fa o pm cd doc a vs ns G Y ho hd hcd hmg hobj hints hlen hbits hg => ?_
  obtain ⟨K, KX, fd, cs, sp, t1, t2, t3, t4, t5, t6⟩ := F w mg fa _ Y G.T.g hmg
  exact law_callTs KX G.T.g G.T.b G.T.builtins G.T.nolimit hg t1 t2 t3 G.T.bmain hobj hints (Nat.le_trans hlen hn2) rm t6 t4 (fun H hH hS => t5 H a ns hlen hbits hH hS) (fun _ _ _ z => z)
def dd0 : He.DefD := ⟨("bits", none), "bits", "bits", defArgs sBits, defBody sBits, defScope sBits, [], []⟩
def dd1 : He.DefD := ⟨("has_bit", none), "has_bit", "has_bit", defArgs sHab, defBody sHab, defScope sHab, [], []⟩
def dd2 : He.DefD := ⟨("arc", none), "arc", "arc", defArgs sArq, defBody sArq, defScope sArq, [], []⟩
def dd3 : He.DefD := ⟨("round_bits", none), "round_bits", "round_bits", defArgs sRbd, defBody sRbd, defScope sRbd, [], []⟩
def dd4 : He.DefD := ⟨("next_bit", none), "next_bit", "next_bit", defArgs sNxb, defBody sNxb, defScope sNxb, [], []⟩
def dd5 : He.DefD := ⟨("across", none), "across", "across", defArgs sAcr, defBody sAcr, defScope sAcr, [], []⟩
def dd6 : He.DefD := ⟨("tree_at", none), "tree_at", "tree_at", defArgs sTra, defBody sTra, defScope sTra, [], [("source", He.Dv.int 0)]⟩
def dd7 : He.DefD := ⟨("letter_at", none), "letter_at", "letter_at", defArgs sLea, defBody sLea, defScope sLea, [], []⟩
def dd8 : He.DefD := ⟨("due", none), "due", "due", defArgs sDue, defBody sDue, defScope sDue, [], []⟩
def dd9 : He.DefD := ⟨("told", none), "told", "told", defArgs sTol, defBody sTol, defScope sTol, [], [("source", He.Dv.int 0)]⟩
def dd10 : He.DefD := ⟨("end", none), "end", "end", defArgs sEnde, defBody sEnde, defScope sEnde, [], []⟩
def dd11 : He.DefD := ⟨("plan", none), "plan", "plan", defArgs sPla, defBody sPla, defScope sPla, [], [("source", He.Dv.int 0)]⟩
def dd12 : He.DefD := ⟨("tellings", none), "tellings", "tellings", defArgs sTls, defBody sTls, defScope sTls, [], []⟩
def dd13 : He.DefD := ⟨("judged", none), "judged", "judged", defArgs sJud, defBody sJud, defScope sJud, [], [("source", He.Dv.int 0)]⟩
def dd14 : He.DefD := ⟨("wrong_teller", none), "wrong_teller", "wrong_teller", defArgs sWte, defBody sWte, defScope sWte, [], []⟩
def dd15 : He.DefD := ⟨("outcome", none), "outcome", "outcome", defArgs sOuc, defBody sOuc, defScope sOuc, [], []⟩
def dd16 : He.DefD := ⟨("bound", none), "bound", "bound", defArgs sBou, defBody sBou, defScope sBou, [], []⟩
def dd17 : He.DefD := ⟨("_law_pot", none), "_law_pot", "_law_pot", defArgs sPot, defBody sPot, defScope sPot, [], []⟩
def dd18 : He.DefD := ⟨("_law_take", none), "_law_take", "_law_take", defArgs sTake, defBody sTake, defScope sTake, [], []⟩
def dd19 : He.DefD := ⟨("_law_two", none), "_law_two", "_law_two", defArgs sTwo, defBody sTwo, defScope sTwo, [], []⟩
def dd20 : He.DefD := ⟨("_law_doublings", none), "_law_doublings", "_law_doublings", defArgs sDbl, defBody sDbl, defScope sDbl, [], []⟩
def dd21 : He.DefD := ⟨("law", none), "law", "law", defArgs sLaw, defBody sLaw, defScope sLaw, [], []⟩
def fnL : List He.DefD := [dd0, dd1, dd2, dd3, dd4, dd5, dd6, dd7, dd8, dd9, dd10, dd11, dd12, dd13, dd14, dd15, dd16, dd17, dd18, dd19, dd20, dd21]
def faL : List He.Fa := [.glo "bits", .glo "has_bit", .glo "arc", .glo "round_bits", .glo "next_bit", .glo "across", .glo "tree_at", .glo "letter_at", .glo "due", .glo "told", .glo "end", .glo "plan", .glo "tellings", .glo "judged", .glo "wrong_teller", .glo "outcome", .glo "bound", .glo "_law_pot", .glo "_law_take", .glo "_law_two", .glo "_law_doublings", .glo "law", .free "len", .free "tuple", .free "list", .free "range", .free "min", .free "max", .free "abs", .free "int", .free "all", .free "any", .free "zip", .free "enumerate", .free "reversed", .free "repr", .free "sorted", .free "sum", .free "set"]
def tfL : List He.Defn := [("round_bits", none)]
abbrev RR : PySem.W.OpenRow := PySem.W.OpenLaw.row PySem.Challenge.rw_beatferry_k26_bounds_and_names
abbrev hkL : PySem.W.Hook := He.hookX 4 faL fnL [] tfL (fun _ => true)
def obL (s : PySem.W.SharedT) : He.AlX := He.obsX 4 faL fnL [] tfL (fun _ => true) (HandSHeadRun.getT s)
theorem obL_eq (s : PySem.W.SharedT) : obL s = hkL.obs s.abs := He.obsX_eq (HandSHeadRun.getT_eq s)
theorem runL (w : World) : HandSHeadRun.RunEq RR (PySem.W.view RR.prog [27]) hkL obL 5000 ["bits", "has_bit", "arc", "round_bits", "next_bit", "across", "tree_at", "letter_at", "due", "told", "end", "plan", "tellings", "judged", "wrong_teller", "outcome", "bound", "_law_pot", "_law_take", "_law_two", "_law_doublings"] w := by
  intro os
  kernel_rfl
theorem facts {l : PySem.W.OpenLaw} {w : World} {K : PySem.W.Frag} {h : Heap} {mg : Str → Option Value} {fa : Addr} (X : K.In h) (G : h.Ns mainGlobals mg) (hfa : mg ("law" : Str) = some (.ref fa)) (c : He.SaysX faL fnL [] tfL (fun _ => true) w h K) : LawAtS l w K CX0 13 63 "_law_script" mg fa h := by
  have cd := c.t.d
  obtain ⟨e0, F0⟩ := cd.def_ 0 (d := dd0) rfl
  have g0 := He.glo_ok X G (cd.fact 0 (f := .glo "bits") rfl)
  obtain ⟨e1, F1⟩ := cd.def_ 1 (d := dd1) rfl
  have g1 := He.glo_ok X G (cd.fact 1 (f := .glo "has_bit") rfl)
  obtain ⟨e2, F2⟩ := cd.def_ 2 (d := dd2) rfl
  have g2 := He.glo_ok X G (cd.fact 2 (f := .glo "arc") rfl)
  obtain ⟨e3, F3⟩ := cd.def_ 3 (d := dd3) rfl
  have g3 := He.glo_ok X G (cd.fact 3 (f := .glo "round_bits") rfl)
  obtain ⟨e4, F4⟩ := cd.def_ 4 (d := dd4) rfl
  have g4 := He.glo_ok X G (cd.fact 4 (f := .glo "next_bit") rfl)
  obtain ⟨e5, F5⟩ := cd.def_ 5 (d := dd5) rfl
  have g5 := He.glo_ok X G (cd.fact 5 (f := .glo "across") rfl)
  obtain ⟨e6, F6⟩ := cd.def_ 6 (d := dd6) rfl
  have g6 := He.glo_ok X G (cd.fact 6 (f := .glo "tree_at") rfl)
  obtain ⟨e7, F7⟩ := cd.def_ 7 (d := dd7) rfl
  have g7 := He.glo_ok X G (cd.fact 7 (f := .glo "letter_at") rfl)
  obtain ⟨e8, F8⟩ := cd.def_ 8 (d := dd8) rfl
  have g8 := He.glo_ok X G (cd.fact 8 (f := .glo "due") rfl)
  obtain ⟨e9, F9⟩ := cd.def_ 9 (d := dd9) rfl
  have g9 := He.glo_ok X G (cd.fact 9 (f := .glo "told") rfl)
  obtain ⟨e10, F10⟩ := cd.def_ 10 (d := dd10) rfl
  have g10 := He.glo_ok X G (cd.fact 10 (f := .glo "end") rfl)
  obtain ⟨e11, F11⟩ := cd.def_ 11 (d := dd11) rfl
  have g11 := He.glo_ok X G (cd.fact 11 (f := .glo "plan") rfl)
  obtain ⟨e12, F12⟩ := cd.def_ 12 (d := dd12) rfl
  have g12 := He.glo_ok X G (cd.fact 12 (f := .glo "tellings") rfl)
  obtain ⟨e13, F13⟩ := cd.def_ 13 (d := dd13) rfl
  have g13 := He.glo_ok X G (cd.fact 13 (f := .glo "judged") rfl)
  obtain ⟨e14, F14⟩ := cd.def_ 14 (d := dd14) rfl
  have g14 := He.glo_ok X G (cd.fact 14 (f := .glo "wrong_teller") rfl)
  obtain ⟨e15, F15⟩ := cd.def_ 15 (d := dd15) rfl
  have g15 := He.glo_ok X G (cd.fact 15 (f := .glo "outcome") rfl)
  obtain ⟨e16, F16⟩ := cd.def_ 16 (d := dd16) rfl
  have g16 := He.glo_ok X G (cd.fact 16 (f := .glo "bound") rfl)
  obtain ⟨e17, F17⟩ := cd.def_ 17 (d := dd17) rfl
  have g17 := He.glo_ok X G (cd.fact 17 (f := .glo "_law_pot") rfl)
  obtain ⟨e18, F18⟩ := cd.def_ 18 (d := dd18) rfl
  have g18 := He.glo_ok X G (cd.fact 18 (f := .glo "_law_take") rfl)
  obtain ⟨e19, F19⟩ := cd.def_ 19 (d := dd19) rfl
  have g19 := He.glo_ok X G (cd.fact 19 (f := .glo "_law_two") rfl)
  obtain ⟨e20, F20⟩ := cd.def_ 20 (d := dd20) rfl
  have g20 := He.glo_ok X G (cd.fact 20 (f := .glo "_law_doublings") rfl)
  obtain ⟨e21, F21⟩ := cd.def_ 21 (d := dd21) rfl
  have g21 := He.glo_ok X G (cd.fact 21 (f := .glo "law") rfl)
  have m0 := He.free_ok X G (cd.fact 22 (f := .free "len") rfl)
  have m1 := He.free_ok X G (cd.fact 23 (f := .free "tuple") rfl)
  have m2 := He.free_ok X G (cd.fact 24 (f := .free "list") rfl)
  have m3 := He.free_ok X G (cd.fact 25 (f := .free "range") rfl)
  have m4 := He.free_ok X G (cd.fact 26 (f := .free "min") rfl)
  have m5 := He.free_ok X G (cd.fact 27 (f := .free "max") rfl)
  have m6 := He.free_ok X G (cd.fact 28 (f := .free "abs") rfl)
  have m7 := He.free_ok X G (cd.fact 29 (f := .free "int") rfl)
  have m8 := He.free_ok X G (cd.fact 30 (f := .free "all") rfl)
  have m9 := He.free_ok X G (cd.fact 31 (f := .free "any") rfl)
  have m10 := He.free_ok X G (cd.fact 32 (f := .free "zip") rfl)
  have m11 := He.free_ok X G (cd.fact 33 (f := .free "enumerate") rfl)
  have m12 := He.free_ok X G (cd.fact 34 (f := .free "reversed") rfl)
  have m13 := He.free_ok X G (cd.fact 35 (f := .free "repr") rfl)
  have m14 := He.free_ok X G (cd.fact 36 (f := .free "sorted") rfl)
  have m15 := He.free_ok X G (cd.fact 37 (f := .free "sum") rfl)
  have m16 := He.free_ok X G (cd.fact 38 (f := .free "set") rfl)
  have ee := hfa.symm.trans g21
  cases ee
  have bL := FunD.bindsA (ps := ["_law_script"]) F21 fun _ _ _ _ _ _ us hl => match us, hl with | [_], _ => rfl
  obtain ⟨oc, od, dV, kV, doc, pm, an, cdv, ct, osl, efd, lk, hcd, hD, hK⟩ := id F3.ex
  obtain ⟨cc, rfl⟩ := He.codeIn_ref hcd
  have ec : He.codeOf K ("round_bits", none) = cc := He.codeOf_eq lk (by rw [efd])
  have FT : FunT K "round_bits" sRound (He.fAd K dd3.at_) e3 cc := by
    rcases hD with ⟨_, rfl⟩ | ⟨z, _⟩
    · exact ⟨⟨oc, od, kV, doc, pm, an, ct, osl, efd, lk, hcd⟩, F3.kp⟩
    · exact absurd rfl z
  have memT : (("round_bits", none) : He.Defn) ∈ tfL := List.mem_singleton.mpr rfl
  refine ⟨e21, [He.cT K ("round_bits", none)], spLawT K [((He.cT K ("round_bits", none)).2, lamNm)], fun p hp => ?_, fun p hp => ?_, fun p hp => ?_, fun s v => bL s [v] rfl, fun H a ns hl _ hH hS => ⟨a, ns, rfl, hS, hl, fun p hp => ?_, fun _ => rfl⟩, fun base _ _ TB => ?_⟩
  · rw [List.mem_singleton.mp hp]; exact c.empty _ memT
  · rw [List.mem_singleton.mp hp]; exact c.out _ memT
  · rw [List.mem_singleton.mp hp]; exact PySem.W.codeHd_of_K X (c.hd _ memT)
  · rw [List.mem_singleton.mp hp]; exact TabS.nil (hH _ (List.mem_singleton.mpr rfl))
  · have TB0 : TabB base mg cc (He.cT K ("round_bits", none)).2 := by
      have z := TB _ (List.mem_singleton.mpr rfl)
      have e1 : (He.cT K ("round_bits", none)).1 = cc := ec
      rw [e1] at z
      exact z
    have f0 := fun_of (st := sBits) F0
    have b0 := f0.binds (ps := ["hand"]) fun _ _ _ _ _ _ us hl => match us, hl with | [_], _ => rfl
    have f1 := fun_of (st := sHab) F1
    have b1 := f1.binds (ps := ["hand", "k"]) fun _ _ _ _ _ _ us hl => match us, hl with | [_, _], _ => rfl
    have f2 := fun_of (st := sArq) F2
    have b2 := f2.binds (ps := ["q", "j", "k"]) fun _ _ _ _ _ _ us hl => match us, hl with | [_, _, _], _ => rfl
    have f3 := fun_of (st := sRbd) F3
    have b3 := f3.binds (ps := ["q", "hand", "j"]) fun _ _ _ _ _ _ us hl => match us, hl with | [_, _, _], _ => rfl
    have f4 := fun_of (st := sNxb) F4
    have b4 := f4.binds (ps := ["q", "hand", "k"]) fun _ _ _ _ _ _ us hl => match us, hl with | [_, _, _], _ => rfl
    have f5 := fun_of (st := sAcr) F5
    have b5 := f5.binds (ps := ["hand", "k"]) fun _ _ _ _ _ _ us hl => match us, hl with | [_, _], _ => rfl
    have f6 : FunS K "tree_at" sTra _ e6 := F6
    have f7 := fun_of (st := sLea) F7
    have b7 := f7.binds (ps := ["q", "hand", "t", "source"]) fun _ _ _ _ _ _ us hl => match us, hl with | [_, _, _, _], _ => rfl
    have f8 := fun_of (st := sDue) F8
    have b8 := f8.binds (ps := ["q", "m", "hand", "t", "source"]) fun _ _ _ _ _ _ us hl => match us, hl with | [_, _, _, _, _], _ => rfl
    have f9 : FunS K "told" sTol _ e9 := F9
    have f10 := fun_of (st := sEnde) F10
    have b10 := f10.binds (ps := ["q", "m"]) fun _ _ _ _ _ _ us hl => match us, hl with | [_, _], _ => rfl
    have f11 : FunS K "plan" sPla _ e11 := F11
    have f12 := fun_of (st := sTls) F12
    have b12 := f12.binds (ps := ["q", "m", "t", "source"]) fun _ _ _ _ _ _ us hl => match us, hl with | [_, _, _, _], _ => rfl
    have f13 : FunS K "judged" sJud _ e13 := F13
    have f14 := fun_of (st := sWte) F14
    have b14 := f14.binds (ps := ["beat", "at", "first"]) fun _ _ _ _ _ _ us hl => match us, hl with | [_, _, _], _ => rfl
    have f15 := fun_of (st := sOuc) F15
    have b15 := f15.binds (ps := ["hands", "m", "first"]) fun _ _ _ _ _ _ us hl => match us, hl with | [_, _, _], _ => rfl
    have f16 := fun_of (st := sBou) F16
    have b16 := f16.binds (ps := ["hands", "m"]) fun _ _ _ _ _ _ us hl => match us, hl with | [_, _], _ => rfl
    have f17 := fun_of (st := sPot) F17
    have b17 := f17.binds (ps := ["_law_script", "_law_k"]) fun _ _ _ _ _ _ us hl => match us, hl with | [_, _], _ => rfl
    have f18 := fun_of (st := sTake) F18
    have b18 := f18.binds (ps := ["_law_pot_here", "_law_upto"]) fun _ _ _ _ _ _ us hl => match us, hl with | [_, _], _ => rfl
    have f19 := fun_of (st := sTwo) F19
    have b19 := f19.binds (ps := ["_law_k"]) fun _ _ _ _ _ _ us hl => match us, hl with | [_], _ => rfl
    have f20 := fun_of (st := sDbl) F20
    have b20 := f20.binds (ps := ["_law_size"]) fun _ _ _ _ _ _ us hl => match us, hl with | [_], _ => rfl
    have f21 := fun_of (st := sLaw) F21
    have b : Bls mg := ⟨m0, m1, m2, m3, m4, m5, m6, m7, m8, m9, m10, m11, m12, m13, m14, m15, m16⟩
    have c_hab : CalF l.prog w K mg base 1 "has_bit" _ _ ["hand", "k"] (spW2 K [((He.cT K ("round_bits", none)).2, lamNm)] habW) := ⟨ok_hab f1 b , f1.kp, b1, g1⟩
    have GH : FnOk l.prog w K mg base CX0 1 _ _ _ spHas := ok_has f1
    have GB : FnOk l.prog w K mg base CX0 2 _ _ _ (spBits K) := ok_bits f0 GH f1.kp b1 g1 m1 m3
    have c_arq : CalF l.prog w K mg base 1 "arc" _ _ ["q", "j", "k"] (spW3 K [((He.cT K ("round_bits", none)).2, lamNm)] arqW) := ⟨ok_arq f2 b , f2.kp, b2, g2⟩
    have GA : FnOk l.prog w K mg base CX0 1 _ _ _ spArc := ok_arc f2
    have GR := ok_round FT TB0 GA f2.kp b2 g2 GB f0.kp b0 g0 m1 m14
    have c_rbd : CalF l.prog w K mg base 5 "round_bits" _ _ ["q", "hand", "j"] (spW3 K [((He.cT K ("round_bits", none)).2, lamNm)] rbdW) := ⟨ad_round GR, f3.kp, b3, g3⟩
    have c_nxb : CalF l.prog w K mg base 6 "next_bit" _ _ ["q", "hand", "k"] (spW3 K [((He.cT K ("round_bits", none)).2, lamNm)] nxbW) := ⟨ok_nxb f4 b c_rbd, f4.kp, b4, g4⟩
    have c_acr : CalF l.prog w K mg base 1 "across" _ _ ["hand", "k"] (spW2 K [((He.cT K ("round_bits", none)).2, lamNm)] acrW) := ⟨ok_acr f5 b , f5.kp, b5, g5⟩
    have c_tra : CalS l.prog w K mg base 7 "tree_at" _ _ ["q", "hand", "t", "source"] (spW4 K [((He.cT K ("round_bits", none)).2, lamNm)] traW) := ⟨ok_tra f6 b c_hab c_nxb, f6.kp, g6⟩
    have q_tra_3_0123 := kbN (n := 3) (m := 1) (π := [0, 1, 2, 3]) (ps := ["q", "hand", "t", "source"]) (ks := ["source"]) f6 (by decide) rfl fun _ _ _ _ _ _ us ws h1 h2 => match us, ws, h1, h2 with | [_, _, _], [_], _, _ => rfl
    have c_lea : CalF l.prog w K mg base 8 "letter_at" _ _ ["q", "hand", "t", "source"] (spW4 K [((He.cT K ("round_bits", none)).2, lamNm)] leaW) := ⟨ok_lea f7 b c_arq c_hab c_tra q_tra_3_0123, f7.kp, b7, g7⟩
    have c_due : CalF l.prog w K mg base 9 "due" _ _ ["q", "m", "hand", "t", "source"] (spW5 K [((He.cT K ("round_bits", none)).2, lamNm)] dueW) := ⟨ok_due f8 b c_lea, f8.kp, b8, g8⟩
    have c_tol : CalS l.prog w K mg base 10 "told" _ _ ["q", "m", "hand", "t", "source"] (spW5 K [((He.cT K ("round_bits", none)).2, lamNm)] tolW) := ⟨ok_tol f9 b c_acr c_due, f9.kp, g9⟩
    have q_tol_4_01234 := kbN (n := 4) (m := 1) (π := [0, 1, 2, 3, 4]) (ps := ["q", "m", "hand", "t", "source"]) (ks := ["source"]) f9 (by decide) rfl fun _ _ _ _ _ _ us ws h1 h2 => match us, ws, h1, h2 with | [_, _, _, _], [_], _, _ => rfl
    have c_ende : CalF l.prog w K mg base 1 "end" _ _ ["q", "m"] (spW2 K [((He.cT K ("round_bits", none)).2, lamNm)] endeW) := ⟨ok_ende f10 b , f10.kp, b10, g10⟩
    have c_tls : CalF l.prog w K mg base 11 "tellings" _ _ ["q", "m", "t", "source"] (spW4 K [((He.cT K ("round_bits", none)).2, lamNm)] tlsW) := ⟨ok_tls f12 b c_tol q_tol_4_01234, f12.kp, b12, g12⟩
    have c_pla : CalS l.prog w K mg base 12 "plan" _ _ ["q", "m", "source"] (spW3 K [((He.cT K ("round_bits", none)).2, lamNm)] plaW) := ⟨ok_pla f11 b c_ende c_tls, f11.kp, g11⟩
    have q_pla_2_012 := kbN (n := 2) (m := 1) (π := [0, 1, 2]) (ps := ["q", "m", "source"]) (ks := ["source"]) f11 (by decide) rfl fun _ _ _ _ _ _ us ws h1 h2 => match us, ws, h1, h2 with | [_, _], [_], _, _ => rfl
    have q_pla_0_210 := kbN (n := 0) (m := 3) (π := [2, 1, 0]) (ps := ["q", "m", "source"]) (ks := ["source", "m", "q"]) f11 (by decide) rfl fun _ _ _ _ _ _ us ws h1 h2 => match us, ws, h1, h2 with | [], [_, _, _], _, _ => rfl
    have q_pla_0_10d := kbD (n := 0) (m := 2) (π := [1, 0]) (ps := ["q", "m", "source"]) (ks := ["m", "q"]) f11 (by decide) rfl fun _ _ _ _ _ _ _ us ws h1 h2 => match us, ws, h1, h2 with | [], [_, _], _, _ => ⟨_, _, _, _, _, _, rfl, rfl, rfl⟩
    have q_pla_d : ∃ ds, Vals [V.int 0] ds ∧ Binds K e11 ["q", "m", "source"] ds := by
      obtain ⟨ds, v, b⟩ := FunD.binds0 (ps := ["q", "m", "source"]) f11 2 (by simp) rfl (fun D doc pm an cdv ct us ks hu hk => match us, ks, hu, hk with | [_, _], [_], _, _ => ⟨_, _, _, _, _, _, rfl, rfl, rfl⟩)
      exact ⟨ds, v, b⟩
    have c_ouc : CalF l.prog w K mg base 1 "outcome" _ _ ["hands", "m", "first"] (spW3 K [((He.cT K ("round_bits", none)).2, lamNm)] oucW) := ⟨ok_ouc f15 b , f15.kp, b15, g15⟩
    have c_wte : CalF l.prog w K mg base 1 "wrong_teller" _ _ ["beat", "at", "first"] (spW3 K [((He.cT K ("round_bits", none)).2, lamNm)] wteW) := ⟨ok_wte f14 b , f14.kp, b14, g14⟩
    have c_jud : CalS l.prog w K mg base 2 "judged" _ _ ["hands", "m", "plan", "source"] (spW4 K [((He.cT K ("round_bits", none)).2, lamNm)] judW) := ⟨ok_jud f13 b c_ouc c_wte, f13.kp, g13⟩
    have q_jud_0_3210 := kbN (n := 0) (m := 4) (π := [3, 2, 1, 0]) (ps := ["hands", "m", "plan", "source"]) (ks := ["source", "plan", "m", "hands"]) f13 (by decide) rfl fun _ _ _ _ _ _ us ws h1 h2 => match us, ws, h1, h2 with | [], [_, _, _, _], _, _ => rfl
    have q_jud_3_0123 := kbN (n := 3) (m := 1) (π := [0, 1, 2, 3]) (ps := ["hands", "m", "plan", "source"]) (ks := ["source"]) f13 (by decide) rfl fun _ _ _ _ _ _ us ws h1 h2 => match us, ws, h1, h2 with | [_, _, _], [_], _, _ => rfl
    have q_jud_d : ∃ ds, Vals [V.int 0] ds ∧ Binds K e13 ["hands", "m", "plan", "source"] ds := by
      obtain ⟨ds, v, b⟩ := FunD.binds0 (ps := ["hands", "m", "plan", "source"]) f13 3 (by simp) rfl (fun D doc pm an cdv ct us ks hu hk => match us, ks, hu, hk with | [_, _, _], [_], _, _ => ⟨_, _, _, _, _, _, rfl, rfl, rfl⟩)
      exact ⟨ds, v, b⟩
    have c_bou : CalF l.prog w K mg base 1 "bound" _ _ ["hands", "m"] (spW2 K [((He.cT K ("round_bits", none)).2, lamNm)] bouW) := ⟨ok_bou f16 b , f16.kp, b16, g16⟩
    have q_bou_0_10 := kbM (n := 0) (m := 2) (π := [1, 0]) (ps := ["hands", "m"]) (ks := ["m", "hands"]) f16 (by decide) rfl fun _ _ _ _ _ _ us ws h1 h2 => match us, ws, h1, h2 with | [], [_, _], _, _ => rfl
    have c_urn : CalF l.prog w K mg base 1 "_law_pot" _ _ _ (spPot K) := ⟨ok_pot f17 m0 m6 m7, f17.kp, b17, g17⟩
    have GT0 : FnOk l.prog w K mg base CX0 1 _ _ _ spTake := ok_take f18
    have c_take : CalF l.prog w K mg base 1 "_law_take" _ _ _ (spP1 K [((He.cT K ("round_bits", none)).2, lamNm)] takeW) := ⟨ad_take GT0, f18.kp, b18, g18⟩
    have c_two : CalF l.prog w K mg base 1 "_law_two" _ _ ["_law_k"] (spW1 K [((He.cT K ("round_bits", none)).2, lamNm)] twoW) := ⟨ok_two f19 b , f19.kp, b19, g19⟩
    have c_dbl : CalF l.prog w K mg base 1 "_law_doublings" _ _ ["_law_size"] (spW1 K [((He.cT K ("round_bits", none)).2, lamNm)] dblW) := ⟨ok_dbl f20 b , f20.kp, b20, g20⟩
    exact ok_law f21 b c_bou c_dbl c_jud c_pla c_take c_two q_bou_0_10 q_pla_d q_pla_0_210 q_jud_0_3210 q_jud_3_0123 q_pla_0_10d q_jud_d q_pla_2_012 c_urn law_win
end Bf
open PySem PySem.W PySem.Calls PyProof.Rows
set_option maxHeartbeats 0 in
theorem PySem.Challenge.cw_beatferry_k26_bounds_and_names_holds : PySem.Challenge.rw_beatferry_k26_bounds_and_names.Holds := by
  w_on; o_law
  refine HandSHeadRun.head_any (r := OpenLaw.row PySem.Challenge.rw_beatferry_k26_bounds_and_names) (q := view (OpenLaw.row PySem.Challenge.rw_beatferry_k26_bounds_and_names).prog [27]) (H := Bf.hkL) (ob := Bf.obL) (M := 5000) (loose := ["bits", "has_bit", "arc", "round_bits", "next_bit", "across", "tree_at", "letter_at", "due", "told", "end", "plan", "tellings", "judged", "wrong_teller", "outcome", "bound", "_law_pot", "_law_take", "_law_two", "_law_doublings"]) (d := HandSHeadRun.topDef (OpenLaw.row PySem.Challenge.rw_beatferry_k26_bounds_and_names).prog 27) (kwd := []) Bf.obL_eq
    (by kernel_rfl) (fun s => by kernel_rfl) Bf.runL (by kernel_rfl) (by kernel_rfl) (by kernel_rfl) (by rfl) (by first | assumption | decide +kernel) (by decide +kernel) ⟨rfl, rfl, rfl, rfl, rfl, by decide +kernel⟩ ?hw ?hc
  case hw => w_witness2
  case hc =>
    refine Bf.walkTE (l := PySem.Challenge.rw_beatferry_k26_bounds_and_names) (n := 63) (k := 13) (x := "_law_script") rfl (by decide) (by kernel_rfl) ⟨rfl, by decide, by decide⟩ ?F
    intro w mg fa h Y G hmg0
    obtain ⟨K, KX, c⟩ := Y
    have hmg : mg ("law" : PySem.Str) = some (.ref fa) := by
      have e : (HandSHeadRun.topDef (OpenLaw.row PySem.Challenge.rw_beatferry_k26_bounds_and_names).prog 27).name = ("law" : PySem.Str) := by kernel_rfl
      rw [← e]
      exact hmg0
    exact ⟨K, KX, Bf.facts KX G hmg c⟩
