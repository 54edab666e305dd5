import PyProof.Rows.All
import Wide.All
import OpenK.AllK
import Wide.FinOn
import HandS.ForMost
import HandS.More
import HandS.Wide
import HandS.WideBits
import HandS.TupAny
import HandS.TupMul
import HandS.Style
import HandS.RaiseMore
import KE.SortKeyHeap
import KE.KLam
import HandS.SortKw
import HandS.Lambda
import HandS.Nested
import HandS.EndTab
import HandS.Conv
import HandS.Defaults
import HandS.Zip
import HandS.Walk
import HandS.Comp
import HandS.Rev
import HandS.Iter
import KE.GoesMore
import HandS.Flow
import HandS.SortInts
import HandS.RevRange
import HandS.SetFor
import HandS.Strs
import HandS.Head0
import HandS.Head1
import HandS.Head2
import HandS.HeadEnd
import HandS.HeadHook1
import HandS.HeadHook2
import HandS.HeadHook4
import PySem.Challenge.RW_beatferry_k85_whole_whoever_is_silent
set_option Elab.async false
set_option linter.all false
set_option maxRecDepth 100000
set_option maxHeartbeats 4000000
namespace Bf
open PySem PySem.Spec PyProof.Rows L2

/-! ### defs whose calls stand under no repr -/
structure FnG (P : Program) (w : World) (K : PySem.W.Frag) (mg : Str → Option Value) (base : Heap) (k : Nat) (f : Addr) (fd : FuncData) (ps : List Str) (sp : Sp) : Prop where
  len : ∀ vs H Q E, sp vs H Q E → vs.length = ps.length
  go : ∀ (A : Around) (outer : List Env) (s : Shared) (H : Hp) (args : Args) (us : List Value) (vs : List V) (Q : VK) (E : XK), A.guards = some [] → Room k A →
    Env0 P w K mg base A outer s H → BindsTo s fd args (ps.zip us) → Vals vs us → sp vs H Q E → codeAny (model P w) A (.call (.ref f) args) (CR CX0 outer P w H s Q E) s

theorem fnG_of {P : Program} {w : World} {K : PySem.W.Frag} {mg : Str → Option Value} {base : Heap} {x qual : Str} {st : Stmt} {f : Addr} {fd : FuncData} {N ps : List Str} {k : Nat} {sp : Sp}
    (F : Fun K x qual st f fd) (S : FnScope N ps (defScope st)) (len : ∀ vs H Q E, sp vs H Q E → vs.length = ps.length)
    (body : ∀ (cdv : Value) (A : Around) (outer : List Env) (s : Shared) (H : Hp) (vs : List V) (Q : VK) (E : XK), (A.deeper (envOfC qual (defScope st) s.heap.objs.size f cdv)).guards = some [] →
      Room k (A.deeper (envOfC qual (defScope st) s.heap.objs.size f cdv)) → sp vs H Q E →
      ∃ t, PSs (cxOf CX0 P w K mg base N qual (defScope st) f cdv A outer s H E).nox (defBody st) t ∧ t { nx := fun _ H' => Q .non H', rt := Q } (start N vs) H) : FnG P w K mg base (k + 1) f fd ps sp := by
  obtain ⟨oc, od, kV, doc, pm, an, cdv, ct, osl, rfl, lk, hcd⟩ := F.ex
  refine ⟨len, fun B out s G args us vs Q E gd rm en hb rl hs => ?_⟩
  have ln := len _ _ _ _ hs
  have kx : K.In s.heap := en.mod.kin.keeps fun b o e => (en.bs b o e).1
  have nl : s.heap.NoLimit := en.mod.nolimit.keeps fun b o e => (en.bs b o e).1
  have kinds : ∀ y ∈ ps.zip us, (defScope st).names.lookup y.1 = some .local ∨
      ((defScope st).names.lookup y.1 = some .cell ∧ ((cellsFrom (s.heap.objs.size + 1) (defScope st).names []).lookup y.1).isSome = true) := fun ⟨n, v⟩ hy =>
    (S.par n (List.of_mem_zip hy).1).elim (fun q => .inl q) fun q => .inr ⟨q, PySem.W.cellsFrom_some _ _ _ (.inl q)⟩
  refine codeAny_call_function rm.depth (kx _ _ lk) rfl S.co S.gen rfl (PySem.W.codeRec_of kx hcd) (hb _ _ _ _ ?_)
  refine wpAny_newFunctionEnv_cells S.kind kinds fun env he s1 x1 => ?_
  subst he
  refine ⟨nl.keeps x1.toInCall.keep, codeAny_func ?_⟩
  obtain ⟨t, ht, hq⟩ := body cdv B out s G vs Q E gd (rm.deeper _) hs
  have J0 : Inv (cxOf CX0 P w K mg base N qual (defScope st) f cdv B out s G E) [] (start N vs) G s1 := inv_start S rm.hd en ln rl x1
  refine wpAny_mono (ht.nox.run [] s1 (start N vs) G _ J0 hq) (fun fl s' hs' => ?_) fun e s' hs' => hs'
  cases fl with
  | ret u => exact let ⟨v, _, H', J, rv, q⟩ := hs'; ⟨v, H', J.os, J.bare, J.base, J.hok, rv, q⟩
  | next => exact let ⟨_, H', J, q⟩ := hs'; ⟨V.non, H', J.os, J.bare, J.base, J.hok, rfl, q⟩
  | brk => exact let ⟨_, _, _, q⟩ := hs'; False.elim q
  | cont => exact let ⟨_, _, _, q⟩ := hs'; False.elim q

section
variable {X : Cx} {x : Str} {p pos : Pos} {e : Expr} {es : List Expr} {t : TA} {k : Nat} {f : Addr} {fd : FuncData} {ps : List Str} {sp : Sp} {ds : List Value} {dvs : List V} {E : XK}
theorem runG {pins : List (Addr × Obj)} {σ : L2.St} {H : Hp} {s : Shared} {Q : VK} {us : List Value} {vs : List V} (F : FnG X.prog X.w X.K X.mg X.base k f fd ps sp) (gd : X.A.guards = some []) (hr : Room k X.A) (hb : Binds X.K fd ps ds) (hd : Vals dvs ds)
    (I : Inv X pins σ H s) (r : Vals vs us) (h : sp (vs ++ dvs) H Q E) : wpAny (model X.prog X.w) X.A (call (.ref f) us) (EP X pins σ Q) X.xe s := by
  have rr : Vals (vs ++ dvs) (us ++ ds) := r.append hd
  have ll : (us ++ ds).length = ps.length := rr.length.symm.trans (F.len _ _ _ _ h)
  refine wpAny_call (codeAny_mono (F.go X.A X.stack s H ⟨us, []⟩ (us ++ ds) (vs ++ dvs) Q E gd hr I.env0 (hb s us I.kIn ll) rr h) fun z s' hq => ?_)
  match z, hq with
  | .error _, hq => exact hq.elim
  | .ok (.ret _), hq => exact I.after hq
  | .ok .next, hq => exact False.elim hq
  | .ok .brk, hq => exact False.elim hq
  | .ok .cont, hq => exact False.elim hq
theorem pe_callG (F : FnG X.prog X.w X.K X.mg X.base k f fd ps sp) (gd : X.A.guards = some []) (hr : Room k X.A) (hg : Gl X x) (hm : X.mg x = some (.ref f)) (hk : PySem.W.keepIn X.K (.ref f) = true) (hb : Binds X.K fd ps ds) (hd : Vals dvs ds)
    (ha : PA X (e :: es) t) (hdb : (x == ("__debug__" : Str)) = false := by decide) (he : starEach (e :: es) X.env = (false, eval e X.env) :: starEach es X.env := by rfl) (hpl : (backTo pos (starEach es X.env)).any (·.1) = false := by rfl) :
    PE X (.Call (.Name x p) (e :: es) [] pos) (tCall sp dvs E t) :=
  ⟨fun pins s σ H Q I h => wpAny_Call_Name_kw (ld_glob I hg hm (PySem.W.callWith_K (h₀ := X.base) I.ok.mod.kin hk
    (thn (ha.run pos pins s σ H _ I h) fun us s1 ⟨vs, H1, I1, r, q⟩ => ⟨I1.kIn, runG F gd hr hb hd I1 r q⟩) he hpl) hdb)⟩

/-! ### repr of data -/
theorem call_reprD (gd : X.A.guards = some []) (hu : X.A.units + 64 < cLine) : CallR X (.builtin "repr") (fun xs H Q => ∃ a d, xs = [.ref a] ∧ Dp X.K H (.ref a) d ∧ d.showable = true ∧ d.hasDict = false ∧ d.depth < 60 ∧ d.shown.length ≤ sizeLine ∧ Q (.str d.shown) H) := by
  intro pins s σ H xs us Q I r h
  obtain ⟨a, d, rfl, hd, h1, h2, h3, h4, q⟩ := h
  obtain ⟨u, rfl, ru⟩ := vals1 r
  obtain ⟨as, rd⟩ := Dp.reads I d _ u hd ru
  cases ru
  refine repr_of_reads' rd h1 (PyData.noDict_hsm h2) gd (by omega) (fun _ _ z => z) (fun h' u tk hk => ?_) h4
  exact ⟨.str d.shown, H, I.kept hk, ⟨u, rfl⟩, q⟩
theorem call_reprN : CallR X (.builtin "repr") (fun xs H Q => ∃ i, xs = [.int i] ∧ i.natAbs.log2 < 1920 ∧ Q (.str (toString i)) H) := by
  intro pins s σ H xs us Q I r h
  obtain ⟨i, rfl, hz, q⟩ := h
  obtain ⟨u, rfl, t, rfl⟩ := vals1 r
  exact PySem.P.repr_of_int hz ⟨.str (toString i), H, I.tok _, ⟨_, rfl⟩, q⟩

/-! ### calls by names alone -/
theorem pe_callK0 {CX : CXT} {kws : List Keyword} {tk : TA} {ks : List Str} {g : List Value → List Value → List Value} {gV : List V → List V → List V} (F : FnOk X.prog X.w X.K X.mg X.base CX k f fd ps sp) (hr : Room k X.A) (hg : Gl X x)
    (hm : X.mg x = some (.ref f)) (hk : PySem.W.keepIn X.K (.ref f) = true) (hb : KBinds X.K fd ps ks g gV) (hx : Passes CX X E) (hkw : PK X kws tk)
    (hall : (backToKw pos (keywordEach kws X.env)).all (·.1.isSome) = true := by rfl) (hks : (backToKw pos (keywordEach kws X.env)).filterMap (·.1) = ks := by rfl) (hdb : (x == ("__debug__" : Str)) = false := by decide)
    (hpl : ((backTo pos (starEach [] X.env)).any (·.1) || (backToKw pos (keywordEach kws X.env)).any (·.1.isNone)) = false := by rfl) : PE X (.Call (.Name x p) [] kws pos) (tCallK sp gV E tNil tk) := by
  refine ⟨fun pins s σ H Q I h => wpAny_Call_Name_kw (ld_glob I hg hm (PySem.W.callWith_KW0 (h₀ := X.base) I.ok.mod.kin hk hall ?_ hpl) hdb)⟩
  refine thn (hkw.run pos pins s σ H _ I h) fun ws s2 ⟨zs, H2, I2, rz, q2⟩ => ⟨I2.kIn, ?_⟩
  rw [hks]
  exact run_fnk F hr hb hx I2 .nil rz q2

/-! ### t[::-1], t a tuple -/
end
section
variable {prog : Program} {w : World} {A : Around} {E : Value → Shared → Prop} {s : Shared}
theorem back_adjust (n : Nat) : Builtin.Slice.sliceAdjust none none (-1) (n : Int) = ((n : Int) - 1, -1) := by
  unfold Builtin.Slice.sliceAdjust
  rfl
theorem back_places (n : Nat) : Builtin.Slice.slicePlaces ((n : Int) - 1) (-1) (-1) = n := by
  unfold Builtin.Slice.slicePlaces
  have h1 : ¬ ((-1 : Int) > 0) := by omega
  simp only [h1, if_false, Int.neg_neg, Int.ediv_one]
  split <;> omega
theorem back_pick (xs : Array Value) : ((List.range xs.size).filterMap fun (k : Nat) => xs[((xs.size : Int) - 1 + (k : Int) * (-1)).toNat]?).toArray = xs.toList.reverse.toArray := by
  have e : ((List.range xs.size).filterMap fun (k : Nat) => xs[((xs.size : Int) - 1 + (k : Int) * (-1)).toNat]?) = ((List.range xs.size).map fun k => xs.size - 1 - k).filterMap (xs[·]?) := by
    rw [List.filterMap_map]
    have h : ∀ l : List Nat, l.filterMap (fun (k : Nat) => xs[((xs.size : Int) - 1 + (k : Int) * (-1)).toNat]?) = l.filterMap ((fun x => xs[x]?) ∘ fun k => xs.size - 1 - k) := by
      intro l
      induction l with
      | nil => rfl
      | cons k l ih =>
        have ek : ((xs.size : Int) - 1 + (k : Int) * (-1)).toNat = xs.size - 1 - k := by omega
        simp only [List.filterMap_cons, ih, Function.comp, ek]
    exact h _
  rw [e, PySem.W.krv_range, List.filterMap_reverse, PySem.W.krv_all]
theorem back_applied {sl : Addr} {vl vu vs : Value} {n : Nat} {Q : Int × Int × Nat → Shared → Prop} (hs : s.heap.IsSliceOf sl vl vu vs) (pl : IsPart vl none) (pu : IsPart vu none) (pk : IsPart vs (some (-1)))
    (h : Q ((n : Int) - 1, -1, n) s) : wpAny (model prog w) A (Builtin.Slice.sliceApplied (.ref sl) (pure (n : Int))) Q E s := by
  obtain ⟨os, ho, _, hd⟩ := id hs
  unfold Builtin.Slice.sliceApplied Builtin.Slice.sliceFields
  refine wpAny_bind (wpAny_bind (wpAny_field ho hd (x := vl) rfl (wpAny_bind (wpAny_field ho hd (x := vu) rfl (wpAny_bind (wpAny_field ho hd (x := vs) rfl (wpAny_pure ?_)))))))
  refine wpAny_bind (HT.slicePart_ pk ?_)
  show wpAny _ _ (if ((-1 : Int) == 0) = true then _ else _) _ _ s
  rw [if_neg (by decide)]
  refine wpAny_bind (HT.slicePart_ pl (wpAny_bind (HT.slicePart_ pu (wpAny_bind (wpAny_pure ?_)))))
  show wpAny _ _ (match Builtin.Slice.sliceAdjust none none (-1) (n : Int) with | (lo, hi) => pure (lo, (-1 : Int), Builtin.Slice.slicePlaces lo hi (-1))) _ _ s
  rw [back_adjust n]
  show wpAny _ _ (pure ((n : Int) - 1, (-1 : Int), Builtin.Slice.slicePlaces ((n : Int) - 1) (-1) (-1))) _ _ s
  rw [back_places]
  exact wpAny_pure h
theorem getItem_tuple_back {t sl : Addr} {items : Array Value} {vl vu vs : Value} {Q : Value → Shared → Prop} (ht : IsTup s.heap t items) (hs : s.heap.IsSliceOf sl vl vu vs) (pl : IsPart vl none) (pu : IsPart vu none) (pk : IsPart vs (some (-1)))
    (h : Q (.ref s.heap.objs.size) { s with heap := s.heap.push { cls := .type "tuple", data := .seq items.toList.reverse.toArray } }) (hsz : items.size ≤ sizeLine) : wpAny (model prog w) A (getItem (.ref t) (.ref sl)) Q E s := by
  have hz : sizeOk (.seq items.toList.reverse.toArray) := by
    show items.toList.reverse.toArray.size ≤ sizeLine
    rw [List.size_toArray, List.length_reverse, Array.length_toList]
    exact hsz
  obtain ⟨os, ho, hcs, _⟩ := id hs
  have hT : s.TypeIs (.ref sl) "slice" := ⟨os, ho, hcs⟩
  unfold getItem
  try with_reducible refine wpAny_holding ?_
  first | refine wpAny_bind (wpAny_pure ?_) | skip
  refine wpAny_bind (wpAny_sequenceKey ht.typeIs (by decide) ?_)
  refine wpAny_bind (wpAny_callSpecial?_slot (name := Str.ofString "__getitem__") ht.typeIs PyProof.Rows.slot_tuple_getitem (wpAny_call_entry PyProof.Rows.slot_tuple_getitem ht.typeIs entry_tuple_getitem ?_ (args_tuple_getitem _ _)))
  show wpAny _ _ (Builtin.Tuple.tupleItemsOf (.ref t) >>= _) _ _ s
  refine wpAny_bind (tupleItemsOf_ ht ?_)
  refine wpAny_bind (wpAny_typeOf hT ?_)
  rw [if_pos (by decide)]
  refine wpAny_bind (back_applied hs pl pu pk ?_)
  have hno : ¬ ((((items.size : Int) - 1) == 0 && (-1 : Int) == 1 && items.size == items.size) = true) := by
    intro q
    rw [Bool.and_eq_true, Bool.and_eq_true] at q
    exact absurd (eq_of_beq q.1.2) (by decide)
  show wpAny _ _ (if (((items.size : Int) - 1) == 0 && (-1 : Int) == 1 && items.size == items.size) = true then _ else _) _ _ s
  rw [if_neg hno, back_pick]
  first
    | exact wpAny_bind (m := Builtin.Tuple.tupleExact _) (wpAny_newObj_type (wpAny_pure ⟨_, rfl, wpAny_pure h⟩) hz)
    | exact wpAny_bind (m := Builtin.Tuple.tupleExact _) (wpAny_newObj_type (wpAny_bind (wpAny_pure (wpAny_pure ⟨_, rfl, wpAny_pure h⟩))) hz)
    | exact wpAny_bind (wpAny_bind (m := Builtin.Tuple.tupleExact _) (wpAny_newObj_type (wpAny_pure (wpAny_pure ⟨_, rfl, wpAny_pure h⟩)) hz))
    | exact wpAny_bind (wpAny_bind (m := Builtin.Tuple.tupleExact _) (wpAny_newObj_type (wpAny_pure ⟨_, rfl, wpAny_pure h⟩) hz))
end
section
variable {X : Cx} {x : Str} {p pos : Pos} {e : Expr} {es : List Expr} {t : TA} {k : Nat} {f : Addr} {fd : FuncData} {ps : List Str} {sp : Sp} {ds : List Value} {dvs : List V} {E : XK}
def tRevT (K : PySem.W.Frag) (te : TE) : TE := fun σ H Q => te σ H fun x H1 => ∃ a xs, x = .ref a ∧ SqT K H1 a xs ∧ ∀ p, H1 p = none → Q (.ref p) (upd H1 p (.tup xs.reverse))
theorem pe_revT {te : TE} {k : Nat} {p1 p2 p3 : Pos} (he : PE X e te) : PE X (.Subscript e (.Slice none none (some (.UnaryOp .USub (.Constant (.int 1) k p1) p2)) p3) pos) (tRevT X.K te) := by
  refine ⟨fun pins s σ H Q I h => Subscript_ (thn (he.run pins s σ H _ I h) fun v s1 ⟨y, H1, I1, r1, a, xs, ey, hx, q⟩ => ?_)⟩
  subst ey
  cases r1
  have hst : PO X (some (.UnaryOp .USub (.Constant (.int 1) k p1) p2)) (tPart (tUn (rU fun i => .int (-i)) (tC (.int 1)))) := po_some (pe_un un_neg pe_int)
  refine wpAny_Slice (thn (po_none.run pins s1 σ H1 (fun o H2 => o = none ∧ H2 = H1) I1 ⟨rfl, rfl⟩) fun vl s2 ⟨l, H2, I2, pl, el, e2⟩ => ?_)
  subst el e2
  refine thn (po_none.run pins s2 σ H2 (fun o H3 => o = none ∧ H3 = H2) I2 ⟨rfl, rfl⟩) fun vu s3 ⟨u, H3, I3, pu, eu, e3⟩ => ?_
  subst eu e3
  refine thn (hst.run pins s3 σ H3 (fun o H4 => o = some (-1) ∧ H4 = H3) I3 ⟨1, rfl, -1, rfl, rfl, rfl⟩) fun vs s4 ⟨o, H4, I4, pk, eo, e4⟩ => ?_
  subst eo e4
  have J : Inv X pins σ H4 { s4 with heap := s4.heap.push { cls := .type "slice", data := .fields #[vl, vu, vs] } } := I4.kept (t' := s4.toks) fun b ob q => Heap.get?_push_of_some _ q
  obtain ⟨its, r, ht, hz⟩ := J.tuple hx
  show wpAny (model X.prog X.w) X.A (subscriptTail e (.Slice none none (some (.UnaryOp .USub (.Constant (.int 1) k p1) p2)) p3) (.ref a) (.ref s4.heap.objs.size)) (EP X pins σ Q) X.xe { s4 with heap := s4.heap.push { cls := .type "slice", data := .fields #[vl, vu, vs] } }
  refine tail_any (ops := [.ref a, .ref s4.heap.objs.size]) ht.typeIs (PyProof.Rows.slot_tuple_getitem.lookup) ?_ (by with_unfolding_all rfl)
  refine getItem_tuple_back ht (Heap.IsSliceOf.new _ vl vu vs) pl pu pk ?_ (by rw [List.size_toArray, ← r.length]; exact hz)
  refine ⟨.ref _, _, J.laid (t' := s4.toks) (o := .tup xs.reverse) (fun b ob q => Heap.get?_push_of_some _ q) (Nat.le_refl _) ?_, rfl, q _ (J.hok.fresh (Nat.le_refl _))⟩
  exact ⟨by rw [List.length_reverse]; exact hz, its.reverse, r.reverse, IsTup.new _ _⟩

/-! ### t * k, whatever t is -/
def rRepA (K : PySem.W.Frag) : R2 := fun x y H Q => ∃ l k xs, x = .ref l ∧ y = .int k ∧ SqT K H l xs ∧ 2 ≤ k ∧ k ≤ 1000 ∧ xs.length ≤ 1000 ∧
  (xs = [] → Q (.ref l) H) ∧ (xs ≠ [] → ∀ p, H p = none → Q (.ref p) (upd H p (.tup (List.replicate k.toNat xs).flatten)))
theorem tuple_mul0 (l : Addr) (items : Array Value) (n : Nat) (dd : Option Addr) (sl : Array (Option Value)) (x : Int) (u : Tok) (c0 : (decide (x < -(2 ^ 63)) || decide (x ≥ 2 ^ 63)) = false) (c1 : (items.isEmpty || x == 1) = true) :
    Meets (Builtin.«tuple.__mul__» ⟨[.ref l, .int x u], []⟩) (fun _ R s => s.heap.get? l = some { cls := .type "tuple", dict := dd, data := .seq items n, slots := sl } ∧ R (.ok (.ret (Value.ref l))) s) :=
  .of_wp fun prog w A R s h => by
    obtain ⟨hp, g, d, tk, os⟩ := s
    obtain ⟨hl, h⟩ := h
    have f1 := AutoSeq1.idx_int
    wp_walk using wpAny_loadPart' hl
    repeat (first
      | (refine wpAny_ite_false (decide_eq_false (by rw [c0]; exact Bool.false_ne_true)) ?_; wp_walk using wpAny_loadPart' hl)
      | (refine wpAny_ite_true (decide_eq_true c1) ?_; wp_walk using wpAny_loadPart' hl))
    exact ⟨_, rfl, h⟩
theorem op_repA : OpR X (binaryOp .Mult) (rRepA X.K) := by
  intro pins s σ H x y v u Q I rx ry h
  obtain ⟨l, k, xs, rfl, rfl, hT, h1, h2, hz, q0, q1⟩ := h
  by_cases hx : xs = []
  · subst hx
    cases rx
    obtain ⟨t, rfl⟩ := ry
    obtain ⟨its, r, ⟨⟨cls, dd, data, sl⟩, ho, hc, n, hd⟩, hs⟩ := I.tuple hT
    simp only at hc hd
    subst hc hd
    cases r
    have c0 : (decide (k < -(2 ^ 63)) || decide (k ≥ 2 ^ 63)) = false := by
      rw [decide_eq_false (by omega), decide_eq_false (by omega)] <;> rfl
    exact wpAny_binaryOp_repeat_ref (T := "tuple") (U := "int") (by decide) ⟨_, ho, rfl⟩ (fun s' => typeIs_int s' k t) noFill_tuple_mul F.fills_int_mul F.slot_int_rmul repeat_tuple F.slot_int_index.lookup
      (call_meets F.slot_int_rmul (typeIs_int s k t) F.entry_int_rmul (F.args_int_rmul_2 _ _) (int_rmul_tuple k t l ([] : List Value).toArray n dd sl)
        ⟨ho, rfl, ⟨_, ho, rfl⟩, call_meets F.slot_tuple_mul ⟨_, ho, rfl⟩ F.entry_tuple_mul (F.args_tuple_mul_2 _ _) (tuple_mul0 l ([] : List Value).toArray n dd sl k t c0 (by rfl)) ⟨ho, ⟨.ref l, H, I, rfl, q0 rfl⟩⟩⟩)
  · exact op_repT pins s σ H _ _ v u Q I rx ry ⟨l, k, xs, rfl, rfl, hT, hx, h1, h2, hz, q1 hx⟩
end
end Bf
namespace Bf
open PySem PySem.W PyProof.Rows
/-! ### sorted(t, key=f), f's calls keep all, the frames up to their slots -/
def KS (fs : List Addr) (h h' : Heap) : Prop := ∀ b o, h.get? b = some o → (b ∉ fs → h'.get? b = some o) ∧ ∃ sl, h'.get? b = some { o with slots := sl }
def SS (fs : List Addr) (s s' : Shared) : Prop := KS fs s.heap s'.heap ∧ s'.os = s.os ∧ AllBare s'.gens
theorem KS.trans {fs : List Addr} {h h' h'' : Heap} (x : KS fs h h') (y : KS fs h' h'') : KS fs h h'' := fun b o e => by
  obtain ⟨x1, sl, x2⟩ := x b o e
  refine ⟨fun n => (y b o (x1 n)).1 n, ?_⟩
  obtain ⟨_, sl2, y2⟩ := y b _ x2
  exact ⟨sl2, y2⟩
theorem KS.of {fs : List Addr} {h h' : Heap} (x : ∀ b o, h.get? b = some o → h'.get? b = some o) : KS fs h h' := fun b o e => ⟨fun _ => x b o e, o.slots, x b o e⟩
section
variable {prog : Program} {w : World} {A : Around} {E : Value → Shared → Prop} {s : Shared} {a kS : Addr} {b : Bool} {vs : List Value} {e e1 : Nat} {P : PySem.Fin → Shared → Prop} {kz : List Int} {fs : List Addr}
theorem ints_alike (kz : List Int) : AllAlike (kz.map PyData.int) := fun d hd d' hd' => by
  obtain ⟨i, _, rfl⟩ := List.mem_map.mp hd
  obtain ⟨j, _, rfl⟩ := List.mem_map.mp hd'
  rfl
theorem ints_sortable (kz : List Int) : Sortable (kz.map PyData.int) := .inr fun d hd => by
  obtain ⟨i, _, rfl⟩ := List.mem_map.mp hd
  exact ⟨(fun z => nomatch z), fun xs z => nomatch z⟩
theorem ints_each (g : Heap) {l : List Value} {ks : List Int} (hk : IntsAre l ks) : EachIs (fun v k => ∃ as, Reads g v k as) l (ks.map PyData.int) := by
  induction hk with
  | nil => exact .nil
  | cons n t _ ih => exact .cons ⟨_, Reads.int n t⟩ ih
theorem keyS_rest {f : Value} {s₀ : Shared} (k0 : SS fs s₀ s) (hkS : s₀.heap.get? kS = none) (ha0 : s₀.heap.get? a = none) (fk : kS ∉ fs) (fa : a ∉ fs) (nk : s.heap.get? kS = some (seqObj "list" #[] 0)) (na : s.heap.get? a = some (seqObj "list" #[] e1)) (hka : kS ≠ a)
    (hlen : kz.length = vs.length) (hZ : vs.length ≤ sizeLine) (hu : A.units + 1 < cLine)
    (turn : ∀ (i : Nat) (v : Value) (n : Int), vs[i]? = some v → kz[i]? = some n → ∀ s1 : Shared, SS fs s₀ s1 → wpAny (model prog w) A (call f [v]) (fun u s2 => (∃ t, u = .int n t) ∧ SS fs s1 s2) (fun _ _ => False) s1)
    (h : ∀ s2 out c, SS fs s₀ s2 → s2.heap.get? a = some (seqObj "list" (List.toArray out) c) → KeyedOut b (kz.map PyData.int) vs out → P (.done (.ret .none)) s2) :
    wpAny (model prog w) A (ksk_rest a f b vs.toArray e1 (.ref kS)) P E s := by
  unfold ksk_rest
  refine wpAny_bind (wpAny_rule ?_)
  first
    | rw [List.forIn_toArray]
    | (rw [← Array.forIn_toList]; simp only [List.toList_toArray])
    | rw [← Array.forIn_toList]
  refine wpAny_bind (ksk_fold (fun i z => ∃ kA c, SS fs s₀ z ∧ z.heap.get? kS = some (seqObj "list" kA c) ∧ z.heap.get? a = some (seqObj "list" #[] e1) ∧ IntsAre kA.toList (kz.take i)) vs 0 s ⟨#[], 0, k0, nk, na, by rw [List.take_zero]; exact .nil⟩ ?step ?done)
  case step =>
    rintro j x z hx ⟨kA, c, kp, nk', na', hk⟩
    simp only [Nat.zero_add] at hk ⊢
    have hj : j < vs.length := (List.getElem?_eq_some_iff.mp hx).1
    obtain ⟨n, hn⟩ : ∃ n, kz[j]? = some n := ⟨_, List.getElem?_eq_getElem (by omega)⟩
    have hz : kA.size ≤ vs.length := by
      have h1 := hk.length
      rw [Array.length_toList, List.length_take] at h1
      omega
    refine wpAny_bind (wpAny_attempt (wpAny_mono (turn j x n hx hn z kp) (fun v z2 he => ?_) fun _ _ hF => hF.elim))
    obtain ⟨⟨t, rfl⟩, g1, g2, g3⟩ := he
    try dsimp only
    have nk2 : z2.heap.get? kS = some (seqObj "list" kA c) := (g1 _ _ nk').1 fk
    have na2 : z2.heap.get? a = some (seqObj "list" #[] e1) := (g1 _ _ na').1 fa
    have s1 := Heap.SameBut.update z2.heap kS (Obj.mapSeq (·.push (.int n t)))
    obtain ⟨c2, hc2⟩ : ∃ c2, (z2.heap.update kS (Obj.mapSeq (·.push (.int n t)))).get? kS = some (seqObj "list" (kA.push (.int n t)) c2) := ⟨_, get?_update_seq nk2 (·.push (.int n t))⟩
    refine wpAny_bind (listUpdate_at nk2 rfl ?_ (Nat.le_trans hz hZ) (Nat.le_trans (Nat.le_of_eq (Array.size_push ..)) (Nat.succ_le_succ (Nat.le_trans hz hZ))))
    refine wpAny_pure ⟨rfl, kA.push (.int n t), c2, ⟨?_, g2.trans kp.2.1, g3⟩, hc2, (s1.2 a hka.symm).trans na2, ?_⟩
    · have q := kp.1.trans g1
      intro d o ed
      obtain ⟨q1, sl, q2⟩ := q d o ed
      have hd : d ≠ kS := fun z => by rw [z, hkS] at ed; cases ed
      exact ⟨fun m => (s1.2 d hd).trans (q1 m), sl, (s1.2 d hd).trans q2⟩
    · have ek : kz.take (j + 1) = kz.take j ++ [n] := by rw [List.take_add_one, hn]; simp
      have ea : (kA.push (Value.int n t)).toList = kA.toList ++ [Value.int n t] := by simp
      rw [ea, ek]
      exact ksk_snoc hk
  case done =>
    rintro z ⟨kA, c, kp, nk', na', hk⟩
    have e3 : kz.take (0 + vs.length) = kz := List.take_of_length_le (by omega)
    rw [e3] at hk
    have hk' : EachIs (fun v k => ∃ as, Reads z.heap v k as) kA.toList (kz.map PyData.int) := ints_each z.heap hk
    have hsz : kA.size = vs.length := by
      have h1 := hk.length
      rw [Array.length_toList] at h1
      omega
    try dsimp only
    refine wpAny_bind (listItems_at nk' rfl ?_)
    refine keyH_end (s := z) (κ := dataKind z.heap (kz.map PyData.int)) (h₁ := L2.hidT z.heap (fun d => if d = kS then some (.own 0) else none)) (fun d o hd ed => (L2.of_hidT ed).1) ?_ nk' na' hka
      (SortsAt.data (s := z) hk' (ints_alike kz) (ints_sortable kz) fun d hd => ?_) hsz hZ fun h3 tk3 c3 k3 n3 => h _ _ c3 ⟨?_, kp.2.1, kp.2.2⟩ n3 ⟨z.heap, kA.toList, ints_alike kz, rfl, hk'⟩
    · cases q : (L2.hidT z.heap (fun d => if d = kS then some (.own 0) else none)).get? kS with
      | none => rfl
      | some o =>
        have q2 := (L2.of_hidT q).2
        rw [if_pos rfl] at q2
        cases q2
    · obtain ⟨i, _, rfl⟩ := List.mem_map.mp hd
      show A.units + 0 < cLine
      omega
    · intro d o ed
      obtain ⟨q1, sl, q2⟩ := kp.1 d o ed
      have hd : d ≠ kS := fun z => by rw [z, hkS] at ed; cases ed
      have hda : d ≠ a := fun z => by rw [z, ha0] at ed; cases ed
      have up : ∀ o', z.heap.get? d = some o' → h3.get? d = some o' := fun o' e' => k3 d o' hda (L2.hidT_get e' (if_neg hd))
      exact ⟨fun m => up _ (q1 m), sl, up _ q2⟩
theorem keyS_tree {f : Value} {n : Nat} {s₀ : Shared} (k0 : SS fs s₀ s) (ha0 : s₀.heap.get? a = none) (hfs : ∀ d ∈ fs, d < s.heap.objs.size) (fa : a ∉ fs) (ho : s.heap.get? a = some (seqObj "list" vs.toArray n)) (hlen : kz.length = vs.length) (hZ : vs.length ≤ sizeLine) (hu : A.units + 1 < cLine)
    (turn : ∀ (i : Nat) (v : Value) (n : Int), vs[i]? = some v → kz[i]? = some n → ∀ s1 : Shared, SS fs s₀ s1 → wpAny (model prog w) A (call f [v]) (fun u s2 => (∃ t, u = .int n t) ∧ SS fs s1 s2) (fun _ _ => False) s1)
    (h : ∀ s2 out c, SS fs s₀ s2 → s2.heap.get? a = some (seqObj "list" (List.toArray out) c) → KeyedOut b (kz.map PyData.int) vs out → P (.done (.ret .none)) s2) : wpAny (model prog w) A (ksk_tree a f b) P E s := by
  have la : a < s.heap.objs.size := Heap.lt_size ho
  obtain ⟨e1, o1⟩ : ∃ e1, (s.heap.update a (Obj.mapSeq fun _ => (#[] : Array Value))).get? a = some (seqObj "list" #[] e1) := ⟨_, get?_update_seq ho fun _ => #[]⟩
  have zS : ((s.heap.update a (Obj.mapSeq fun _ => (#[] : Array Value))).push (seqObj "tuple" vs.toArray 0)).objs.size = s.heap.objs.size + 1 := by rw [size_push', Heap.size_update]
  have nS : s₀.heap.get? (s.heap.objs.size + 1) = none := by
    cases q : s₀.heap.get? (s.heap.objs.size + 1) with
    | none => rfl
    | some o =>
      obtain ⟨_, sl, q2⟩ := k0.1 _ _ q
      exact absurd (Heap.lt_size q2) (Nat.not_lt.mpr (Nat.le_succ _))
  unfold ksk_tree
  refine wpAny_bind (listItems_at ho rfl ?_)
  refine wpAny_bind (listUpdate_at ho rfl ?_ (by rw [List.size_toArray]; exact hZ) (Nat.zero_le _))
  refine wpAny_bind (seqEpoch_at o1 rfl ?_)
  refine wpAny_bind (wpAny_newTuple ?_ (by show vs.length ≤ _; exact hZ))
  refine wpAny_bind (wpAny_newList ?_ (Nat.zero_le _))
  refine wpAny_holding ?_
  refine keyS_rest (kz := kz) (fs := fs) (s₀ := s₀) (s := { s with heap := ((s.heap.update a (Obj.mapSeq fun _ => (#[] : Array Value))).push (seqObj "tuple" vs.toArray 0)).push (seqObj "list" #[] 0) })
    (kS := ((s.heap.update a (Obj.mapSeq fun _ => (#[] : Array Value))).push (seqObj "tuple" vs.toArray 0)).objs.size) ⟨?_, k0.2.1, k0.2.2⟩ (by rw [zS]; exact nS) ha0 (fun z => ?_) fa (Heap.get?_push_size _ rfl) (Heap.get?_push_of_some _ (Heap.get?_push_of_some _ o1))
    (by rw [zS]; exact Nat.ne_of_gt (Nat.lt_succ_of_lt la)) hlen hZ hu turn h
  · intro d o ed
    obtain ⟨q1, sl, q2⟩ := k0.1 d o ed
    have hd : d ≠ a := fun z => by rw [z, ha0] at ed; cases ed
    have up : ∀ o', s.heap.get? d = some o' → (((s.heap.update a (Obj.mapSeq fun _ => (#[] : Array Value))).push (seqObj "tuple" vs.toArray 0)).push (seqObj "list" #[] 0)).get? d = some o' := fun o' e' =>
      Heap.get?_push_of_some _ (Heap.get?_push_of_some _ ((Heap.get?_update_ne _ _ _ _ hd).trans e'))
    exact ⟨fun m => up _ (q1 m), sl, up _ q2⟩
  · have q := hfs _ z
    rw [zS] at q
    exact absurd q (Nat.not_lt.mpr (Nat.le_succ _))
theorem collect_tup {t : Addr} {Q : List Value → Shared → Prop} (ht : IsTup s.heap t vs.toArray) (h : Q vs { s with heap := (s.heap.push (seqObj "list" #[] 0)).update s.heap.objs.size (Obj.mapSeq (· ++ vs.toArray)) }) (hsz : vs.length ≤ sizeLine) :
    wpAny (model prog w) A (collect (.ref t)) Q E s := by
  obtain ⟨o, ho, hc, n, hd⟩ := id ht
  unfold collect
  refine wpAny_bind (wpAny_runValue (codeAny_builtin entry_proto_collect' ?_))
  show wpAny _ _ (do again (.builtin "list.__iadd__" ⟨[← newList [], .ref t], []⟩)) _ _ s
  refine wpAny_bind (wpAny_newList (wpAny_pure ⟨Code.quiet_builtin _ (by decide +kernel), codeAny_builtin entry_list_iadd' ?_⟩))
  show wpAny _ _ (Builtin.List.listExtendWith (.ref s.heap.objs.size) (.ref t) (.ref s.heap.objs.size)) _ _ { s with heap := s.heap.push (seqObj "list" #[] 0) }
  unfold Builtin.List.listExtendWith
  have o2 : (s.heap.push (seqObj "list" #[] 0)).get? t = some o := Heap.get?_push_of_some _ ho
  refine wpAny_bind (wpAny_typeOf (T := "tuple") ⟨o, o2, hc⟩ ?_)
  have hT : (Value.type "tuple" == Value.type "tuple") = true := by rfl
  rw [if_pos (by rw [hT]; simp)]
  refine wpAny_bind (listItems_at o2 hd ?_)
  refine wpAny_bind (listItems_at (xs := #[]) (n := 0) (Heap.get?_push_size _ rfl) rfl ?_)
  rw [if_neg (by simp)]
  refine wpAny_bind (listUpdate_at (xs := #[]) (n := 0) (Heap.get?_push_size _ rfl) rfl ?_ (Nat.zero_le _) (by show (#[] ++ vs.toArray).size ≤ sizeLine + 1; simp only [Array.size_append, List.size_toArray, List.length_nil]; omega))
  refine wpAny_pure ?_
  show wpAny (model prog w) A (do
      let x ← load s.heap.objs.size
      match x.data with
      | .seq xs _ => pure xs.toList
      | _ => unsupported "internal:collect") Q E { s with heap := (s.heap.push (seqObj "list" #[] 0)).update s.heap.objs.size (Obj.mapSeq (· ++ vs.toArray)) }
  refine wpAny_bind (wpAny_load (get?_update_seq (Heap.get?_push_size _ rfl) _) ?_)
  show wpAny _ _ (pure ((#[] : Array Value) ++ vs.toArray).toList) Q E _
  rw [show ((#[] : Array Value) ++ vs.toArray).toList = vs by simp]
  exact wpAny_pure h
theorem sortedT {t : Addr} {f : Value} {kw : List (Str × Value)} {Q : Value → Shared → Prop} (bare : AllBare s.gens) (hfs : ∀ d ∈ fs, d < s.heap.objs.size) (ht : IsTup s.heap t vs.toArray) (hlen : kz.length = vs.length) (hZ : vs.length ≤ sizeLine) (hu : A.units + 3 < cLine)
    (ha1 : argsOk "sorted" ⟨[.ref t], kw⟩) (ha2 : ∀ x, argsOk "list.sort" ⟨[.ref x], kw⟩) (hk : ∀ x, Builtin.«list.sort» ⟨[.ref x], kw⟩ = ksk_tree x f b)
    (turn : ∀ (i : Nat) (v : Value) (n : Int), vs[i]? = some v → kz[i]? = some n → ∀ s1 : Shared, SS fs s s1 → wpAny (model prog w) A.in1.in1 (call f [v]) (fun u s2 => (∃ t, u = .int n t) ∧ SS fs s1 s2) (fun _ _ => False) s1)
    (h : ∀ s2 out c, SS fs s s2 → s2.heap.get? (s.heap.objs.size + 1) = some (seqObj "list" (List.toArray out) c) → KeyedOut b (kz.map PyData.int) vs out → Q (.ref (s.heap.objs.size + 1)) s2) : wpAny (model prog w) A (call (.builtin "sorted") [.ref t] kw) Q E s := by
  refine call_function_entry_kw kind_sorted plain_sorted entry_sorted ha1 ?_
  unfold Builtin.«sorted»
  refine wpAny_bind (m := checkCount "sorted" 1 1 _) (wpAny_pure ?_)
  refine wpAny_bind (collect_tup ht ?_ hZ)
  refine wpAny_bind (wpAny_newList ?_ hZ)
  have z1 : ((s.heap.push (seqObj "list" #[] 0)).update s.heap.objs.size (Obj.mapSeq (· ++ vs.toArray))).objs.size = s.heap.objs.size + 1 := by rw [Heap.size_update, size_push']
  show wpAny _ _ _ _ _ { s with heap := copyHeap s.heap vs }
  rw [z1]
  refine wpAny_bind (wpAny_holding (wpAny_call_entry_kw slot_list_sort ⟨_, copyHeap_at s.heap vs, rfl⟩ entry_list_sort ?body (ha2 _)))
  case body =>
    show wpAny (model prog w) A.in1.in1 (Builtin.«list.sort» ⟨[.ref (s.heap.objs.size + 1)], kw⟩) _ _ _
    rw [hk]
    have fresh : s.heap.get? (s.heap.objs.size + 1) = none := Heap.get?_none_of_le (Nat.le_succ _)
    refine keyS_tree (kz := kz) (fs := fs) (s₀ := s) (s := { s with heap := copyHeap s.heap vs }) ⟨KS.of fun d o q => copyHeap_old q, rfl, bare⟩ fresh (fun d hd => ?_) (fun z => ?_) (copyHeap_at s.heap vs) hlen hZ (by show A.units + 1 + 1 + 1 < cLine; omega) turn fun s2 out c k3 n3 ko => ⟨_, rfl, ?_⟩
    · exact Nat.lt_trans (hfs d hd) (Nat.lt_trans (Nat.lt_succ_self _) (Heap.lt_size (copyHeap_at s.heap vs)))
    · exact absurd (hfs _ z) (Nat.not_lt.mpr (Nat.le_succ _))
    · exact wpAny_pure ⟨_, rfl, h s2 out c k3 n3 ko⟩
end
end Bf
namespace Bf
open PySem PySem.Spec PyProof.Rows L2 LamX NdefX
section
variable {X : Cx} {pins : List (Addr × Obj)} {σ : L2.St} {H : Hp} {s s1 : Shared}
/-- all is kept, the frames up to slots; a list is new at D, perhaps -/
theorem inv_SS {H' : Hp} (I : Inv X pins σ H s) (k : SS (frs X.stack) s s1) (h1 : ∀ b o, H b = some o → H' b = some o) (h2 : ∀ b, b < s.heap.objs.size → H b = none → H' b = none)
    (h3 : ∀ b o, H' b = some o → H b = some o ∨ ObjOk X.prog X.w H' s1.heap b o) : Inv X pins σ H' s1 := by
  obtain ⟨k1, k2, k3⟩ := k
  have un : Un (frs X.stack) [] H H' s.heap s1.heap := ⟨fun b o e n hb _ => (k1 b o e).1 hb, fun b o e n hb _ => (k1 b o e).2, fun b o e n _ => h2 b (Heap.lt_size e) n, fun b o e _ => let ⟨sl, q⟩ := (k1 b o e).2; ⟨_, q⟩, fun b _ e => h1 b _ e, fun b _ _ e => h1 b _ e, fun b ps e => ⟨#[], by rw [h1 b _ e]; simp⟩⟩
  have hok : HOk X.prog X.w H' s1.heap := fun a o e => by
    rcases h3 a o e with q | q
    · refine (I.hok a o q).stay (fun b u hb r => (k1 b u r).1 fun z => ?_) (fun b r => h1 b _ r) fun b xs r => h1 b _ r
      have n := I.stkFree b z
      rcases hb with hb | hb
      · rw [hb, q] at n; cases n
      · rw [hb] at n; cases n
    · exact q
  obtain ⟨hh, g, d, t, os'⟩ := s1
  obtain rfl : os' = s.os := k2
  exact I.call (h' := hh) (g' := g) (d' := d) (t' := t) (ch := []) un hok k3 (fun b z => absurd z (by simp))
theorem inv_SS0 (I : Inv X pins σ H s) (k : SS (frs X.stack) s s1) : Inv X pins σ H s1 := inv_SS I k (fun _ _ e => e) (fun _ _ n => n) fun _ _ e => .inl e
def Hn : Hp := fun _ => none
abbrev lamF (X : Cx) (params : Arguments) (scope : Scope) (c' : Addr) : NF := ⟨"<lambda>", X.env.qual ++ "<lambda>", params, [], scope, cloFrom X.env.cells scope.names [], c'⟩
theorem lam_call {params : Arguments} {body : Expr} {scope : Scope} {f c' : Addr} {pm ctv v : Value} {x : Str} {fr N : List Str} {js : List Nat} {k : Nat} {t : TE} {n m : Int} (I : Inv X pins σ H s)
    (hf : s.heap.get? f = some (PySem.W.kla_obj "<lambda>" (X.env.qual ++ "<lambda>") params body scope (cloFrom X.env.cells scope.names []) pm c' ctv)) (hfr : f ∉ frs X.stack) (hc : H c' = some (CodeO c' (X.env.qual ++ "<lambda>")))
    (S : NScope N [x] fr scope) (cp : X.Ok → Caps X (cloFrom X.env.cells scope.names []) fr js)
    (hbind : ∀ (q : Str) (cl : List (Str × Addr)) (pm cv ctv u : Value), bindArgs (PySem.W.kla_fn "<lambda>" q params body scope cl pm cv ctv) ⟨[u], []⟩ = pure [(x, u)]) (hr : Room (k + 3) X.A) (ks : SS (frs X.stack) s s1)
    (hbody : ∀ (A : Around) (outer : List Env) (z : Shared) (G : Hp), Room k (A.deeper (envF (lamF X params scope c') f z.heap.objs.size)) → PE (ncx CX0 X.prog X.w X.K X.mg X.base N (lamF X params scope c') f A outer z G E0) body t)
    (ht : ∀ Q : VK, Q (.int m) Hn → t (startF N [.int n] (js.map (slotAt σ))) Hn Q) (hv : ∃ t, v = .int n t) :
    wpAny (model X.prog X.w) X.A.in1.in1 (call (.ref f) [v]) (fun u s2 => (∃ t, u = .int m t) ∧ SS (frs X.stack) s1 s2) (fun _ _ => False) s1 := by
  have I1 := inv_SS0 I ks
  have of1 := (ks.1 f _ hf).1 hfr
  have en := I1.env0
  have e0 : Env0 X.prog X.w X.K X.mg X.base X.A.in1.in1 X.stack s1 Hn := ⟨en.frames, en.mod, fun b o q => ⟨(en.bs b o q).1, rfl⟩, en.bsz, en.funs, fun _ _ => rfl, (fun a o z => nomatch z), en.bare⟩
  have C0 := cells_of I1 (cp I1.ok)
  have C : CellsAt (cloFrom X.env.cells scope.names []) fr (js.map (slotAt σ)) s1.heap Hn := ⟨C0.len, fun y c e => ⟨rfl, (C0.all y c e).2⟩, C0.inj, C0.has⟩
  obtain ⟨⟨oc, vs, tt, hoc, hdc, hvc⟩, _, _⟩ := I1.hok c' _ hc
  have hr1 : Room (k + 1) X.A.in1.in1 := hr.in1.in1
  have rc : codeAny (model X.prog X.w) X.A.in1.in1 (.call (.ref f) ⟨[v], []⟩) (CR CX0 X.stack X.prog X.w Hn s1 (fun u _ => u = .int m) E0) s1 := by
    refine PySem.W.kla_callFunE hr1.depth of1 rfl S.co S.gen rfl ⟨c', oc, vs, tt, rfl, hoc, hdc, hvc⟩ ?_
    rw [hbind]
    refine wpAny_pure (wpAny_newFunctionEnv S.nocell (fun y hy => ?_) (fun h₁ hns hsb => ⟨I1.nolimit.fresh _ hsb, ?_⟩) S.kind)
    · have e : y = (x, v) := by simpa using hy
      rw [e]
      exact S.par x (by simp)
    · show codeAny _ _ (.expr body (envF (lamF X params scope c') f s1.heap.objs.size)) _ _
      have kp : ∀ b o, s1.heap.get? b = some o → h₁.get? b = some o := fun b o e => hsb.extBut b o (Nat.ne_of_lt (Heap.lt_size e)) (Heap.get?_push_of_some _ e)
      have J : Inv (ncx CX0 X.prog X.w X.K X.mg X.base N (lamF X params scope c') f X.A.in1.in1 X.stack s1 Hn E0) [] (startF N [.int n] (js.map (slotAt σ))) Hn { s1 with heap := h₁, toks := s1.toks + ([(x, v)] : List (Str × Value)).length } :=
        inv_startN (ps := [x]) (us := [v]) S hr1.hd e0 rfl (.cons hv .nil) C hns kp
      refine PySem.W.kla_codeExpr (wpAny_mono ((hbody _ _ s1 Hn (hr1.deeper _)).run [] _ _ Hn (fun u _ => u = .int m) J (ht (fun u _ => u = .int m) rfl)) (fun u z hq => ?_) fun e z hq => hq)
      obtain ⟨w', H', J', rv, q⟩ := hq
      exact ⟨w', H', J'.os, J'.bare, J'.base, J'.hok, rv, q⟩
  refine wpAny_call (codeAny_mono rc fun r z hq => ?_)
  match r, hq with
  | .error _, hq => exact hq.elim
  | .ok .next, hq => exact False.elim hq
  | .ok .brk, hq => exact False.elim hq
  | .ok .cont, hq => exact False.elim hq
  | .ok (.ret u), hq =>
    obtain ⟨u', H', e1, e2, un, _, rv, q⟩ := hq
    obtain rfl : u' = .int m := q
    exact ⟨rv, fun b o e => ⟨fun hb => un.keep b o e rfl hb (by simp), un.any e rfl (by simp)⟩, e1, e2⟩
/-! ### sorted(e, key=lambda x: ..) -/
def tSortLam (T : List (Addr × Str)) (K : PySem.W.Frag) (t : TE) (N : List Str) (js : List Nat) (te : TE) : TE := fun σ H Q => te σ H fun v H1 => ∃ (a : Addr) (ns : List Int) (g : Int → Int), [v] = [V.ref a] ∧ SqT K H1 a (ns.map V.int) ∧ Tabs T H1 ∧
  (∀ n ∈ ns, ∀ Q' : VK, Q' (.int (g n)) Hn → t (startF N [.int n] (js.map (slotAt σ))) Hn Q') ∧
  ∀ (H2 : Hp) (p : Addr) (ns' : List Int), ExtN H1 H2 → Tabs T H2 → H2 p = none → ns'.Perm ns → ns'.Pairwise (fun i j => g i ≤ g j) → Q (.ref p) (upd H2 p (.lst (ns'.map V.int)))
theorem ext_tup {K : PySem.W.Frag} {H1 H2 : Hp} {a : Addr} {xs : List V} (e : ExtN H1 H2) (h : SqT K H1 a xs) : SqT K H2 a xs := by
  rcases h with (h | ⟨o, h⟩) | h
  · exact .inl (.inl (e _ _ h (fun ps z => nomatch z)))
  · exact .inl (.inr ⟨o, e _ _ h (fun ps z => nomatch z)⟩)
  · exact .inr h
theorem each_ints : ∀ {us : List Value} {ns : List Int}, IntsAre us ns → PySem.W.EachIs (fun (v : Value) (n : Int) => ∃ t, v = .int n t) us ns
  | _, _, .nil => .nil
  | _, _, .cons n t r => .cons ⟨t, rfl⟩ (each_ints r)
theorem ints_eachV : ∀ {us : List Value} {ns : List Int}, PySem.W.EachIs (fun (v : Value) (n : Int) => ∃ t, v = .int n t) us ns → Vals (ns.map V.int) us
  | _, _, .nil => .nil
  | _, _, .cons r q => .cons r (ints_eachV q)
theorem int_le (g : Int → Int) : PySem.W.dataLe false (fun n => PyData.int (g n)) = fun i j => decide (g i ≤ g j) := by
  funext i j
  show (!PySem.W.dataLt (.int (g j)) (.int (g i))) = decide (g i ≤ g j)
  rw [PySem.W.dataLt_int]
  by_cases h : g i ≤ g j
  · rw [decide_eq_true h, decide_eq_false (by omega)]; rfl
  · rw [decide_eq_false h, decide_eq_true (by omega)]; rfl
theorem pe_sortLam {T : List (Addr × Str)} {c P : Addr} {e : Expr} {te t : TE} {params : Arguments} {body : Expr} {scope : Scope} {x : Str} {fr N : List Str} {js : List Nat} {k : Nat} {p pos lpos kpos : Pos} (ha : PA X [e] (tCons te tNil)) (hg : Gl X "sorted") (hm : X.mg "sorted" = none)
    (TB : TabB X.base X.mg c P) (hcode : X.env.code = .ref c) (hmT : (P, X.env.qual ++ "<lambda>") ∈ T) (hu : ∀ p ∈ T, p.1 = P → p.2 = X.env.qual ++ "<lambda>") (hdef : defaultsOf params X.env = ([], []))
    (S : NScope N [x] fr scope) (hfree : ∀ y ∈ scope.names, y.2 = .free → X.env.scope.names.lookup y.1 = some .cell ∨ X.env.scope.names.lookup y.1 = some .free) (cp : X.Ok → Caps X (cloFrom X.env.cells scope.names []) fr js)
    (hbind : ∀ (q : Str) (cl : List (Str × Addr)) (pm cv ctv u : Value), bindArgs (PySem.W.kla_fn "<lambda>" q params body scope cl pm cv ctv) ⟨[u], []⟩ = pure [(x, u)]) (hr : Room (k + 3) X.A)
    (hbody : ∀ (f c' : Addr) (A : Around) (outer : List Env) (z : Shared) (G : Hp), Room k (A.deeper (envF (lamF X params scope c') f z.heap.objs.size)) → PE (ncx CX0 X.prog X.w X.K X.mg X.base N (lamF X params scope c') f A outer z G E0) body t)
    (na : backTo pos (starEach [e] X.env) = (false, eval e X.env) :: backTo pos (starEach [] X.env) := by rfl) (hpl : (backTo pos (starEach [e] X.env)).any (·.1) = false := by rfl) :
    PE X (.Call (.Name "sorted" p) [e] [⟨some "key", .Lambda params body scope lpos, kpos⟩] pos) (tSortLam T X.K t N js te) := by
  refine ⟨fun pins s σ H Q I h => ?_⟩
  refine wpAny_Call_Name_kw (ld_blt I hg hm (show bootBuiltins "sorted" = some (.builtin "sorted") by decide +kernel) ?_ (by decide) (by decide))
  refine PyProof.Rows.callWith_kw (thn (ha.run pos pins s σ H (fun vs H1 => ∃ (a : Addr) (ns : List Int) (g : Int → Int), vs = [V.ref a] ∧ SqT X.K H1 a (ns.map V.int) ∧ Tabs T H1 ∧ (∀ n ∈ ns, ∀ Q' : VK, Q' (.int (g n)) Hn → t (startF N [.int n] (js.map (slotAt σ))) Hn Q') ∧
      ∀ (H2 : Hp) (p : Addr) (ns' : List Int), ExtN H1 H2 → Tabs T H2 → H2 p = none → ns'.Perm ns → ns'.Pairwise (fun i j => g i ≤ g j) → Q (.ref p) (upd H2 p (.lst (ns'.map V.int)))) I h) fun us s1 ⟨vs, H1, I1, r1, q1⟩ => ?_) na hpl (by rfl) (by rfl)
  obtain ⟨a, ns, g, ev, hT, tb, hk, q⟩ : ∃ (a : Addr) (ns : List Int) (g : Int → Int), vs = [.ref a] ∧ SqT X.K H1 a (ns.map V.int) ∧ Tabs T H1 ∧ (∀ n ∈ ns, ∀ Q' : VK, Q' (.int (g n)) Hn → t (startF N [.int n] (js.map (slotAt σ))) Hn Q') ∧
      ∀ (H2 : Hp) (p : Addr) (ns' : List Int), ExtN H1 H2 → Tabs T H2 → H2 p = none → ns'.Perm ns → ns'.Pairwise (fun i j => g i ≤ g j) → Q (.ref p) (upd H2 p (.lst (ns'.map V.int))) := q1
  subst ev
  rw [Vals.ref1 r1]
  show wpAny _ _ (evalAll ((do let v ← eval (.Lambda params body scope lpos) X.env; standAt pos; pure v) :: [])) _ _ s1
  refine wpAny_evalAll_cons (wpAny_bind (lam_make2 I1 TB hcode hmT hu tb hdef (fun y hy e => (hfree y hy e).elim (fun z => I1.ok.has _ (.inl z)) fun z => I1.ok.has _ (.inr z)) fun f c' pm ctv H2 s2 I2 eN T2 hf hfn hfr hco => wpAny_bind (wpAny_standAt (wpAny_pure (wpAny_evalAll_nil ?_)))))
  obtain ⟨its, rv, ht, hz⟩ := I2.tuple (ext_tup eN hT)
  have hI : IntsAre its ns := intsAre_of rv
  have hl : ns.length = its.length := by
    have := rv.length
    rw [List.length_map] at this
    exact this
  have hu0 := hr.un
  refine sortedT (fs := frs X.stack) (kz := ns.map g) (vs := its) (b := false) I2.bare (fun d hd => ?_) ht (by rw [List.length_map]; exact hl) (by rw [← rv.length]; exact hz) (by omega) (ksk_s1 _ _) (fun _ => ksk_l1 _ _) (fun y => ksk_t1 f y) (fun i v n hv hn s3 hs3 => ?_) (fun s3 out cc k3 n3 ko => ?_)
  · obtain ⟨_, o, ho, _⟩ := I2.stack.mem hd
    exact Heap.lt_size ho
  · rw [List.getElem?_map] at hn
    cases e : ns[i]? with
    | none => rw [e] at hn; cases hn
    | some m =>
      rw [e] at hn
      obtain rfl : g m = n := Option.some.inj hn
      have hvi : ∃ t, v = .int m t := by
        obtain ⟨u, hu1, hu2⟩ := Vals.get rv (show (ns.map V.int)[i]? = some (.int m) by rw [List.getElem?_map, e]; rfl)
        rw [hv] at hu1
        cases hu1
        exact hu2
      exact lam_call I2 hf hfr hco S cp hbind hr hs3 (fun A outer z G hrr => hbody f c' A outer z G hrr) (hk m (List.mem_of_getElem? e)) hvi
  · rw [List.map_map] at ko
    have eo := PySem.W.keyedOut_each (fun n => PyData.int (g n)) ko (each_ints hI)
    rw [int_le] at eo
    have vo := ints_eachV eo
    have nD : H2 (s2.heap.objs.size + 1) = none := I2.hok.fresh (Nat.le_succ _)
    have I3 : Inv X pins σ (upd H2 (s2.heap.objs.size + 1) (.lst ((ns.mergeSort fun i j => decide (g i ≤ g j)).map V.int))) s3 := by
      refine inv_SS I2 k3 (fun b o e => by rw [upd_ne (ne_of_none e nD)]; exact e) (fun b hb n => ?_) (fun b o e => ?_)
      · rw [upd_ne (Nat.ne_of_lt (Nat.lt_succ_of_lt hb))]
        exact n
      · by_cases eb : b = s2.heap.objs.size + 1
        · subst eb
          rw [upd_same] at e
          cases e
          refine .inr ⟨?_, out, cc, vo, n3⟩
          rw [List.length_map, (List.mergeSort_perm ns _).length_eq, hl, ← rv.length]
          exact hz
        · rw [upd_ne eb] at e
          exact .inl e
    refine ⟨.ref (s2.heap.objs.size + 1), _, I3, rfl, q H2 _ _ eN T2 nD (List.mergeSort_perm ns _) ?_⟩
    have := List.pairwise_mergeSort (le := fun i j => decide (g i ≤ g j)) (fun i j l h1 h2 => decide_eq_true (Int.le_trans (of_decide_eq_true h1) (of_decide_eq_true h2))) (fun i j => by
      rcases Int.le_total (g i) (g j) with h | h
      · simp [h]
      · simp [h]) ns
    exact this.imp fun h => of_decide_eq_true h
end
end Bf
namespace Bf
open PySem PySem.Spec PyProof.Rows L2
/-! ### bits of a number -/
def bl (n h : Nat) : List Nat := (List.range n).filter (fun k => h.testBit k)
theorem bl_succ (n h : Nat) : bl (n + 1) h = bl n h ++ (if h.testBit n = true then [n] else []) := by
  unfold bl
  rw [List.range_succ, List.filter_append]
  cases e : h.testBit n <;> simp [e]
theorem bl_ext {n h : Nat} (hh : h < 2 ^ n) : ∀ d, bl (n + d) h = bl n h
  | 0 => rfl
  | d + 1 => by
    have e : h.testBit (n + d) = false := Nat.testBit_lt_two_pow (Nat.lt_of_lt_of_le hh (Nat.pow_le_pow_right (by decide) (Nat.le_add_right n d)))
    rw [← Nat.add_assoc, bl_succ, bl_ext hh d, e]
    simp
theorem bl_eq {n m h : Nat} (hn : h < 2 ^ n) (hm : h < 2 ^ m) : bl n h = bl m h := by
  rcases Nat.le_total n m with l | l
  · obtain ⟨d, rfl⟩ := Nat.exists_eq_add_of_le l
    exact (bl_ext hn d).symm
  · obtain ⟨d, rfl⟩ := Nat.exists_eq_add_of_le l
    exact bl_ext hm d
theorem bl_len (n h : Nat) : (bl n h).length ≤ n := by
  have := List.length_filter_le (fun k => h.testBit k) (List.range n)
  rw [List.length_range] at this
  exact this
theorem bl_mem {n h i : Nat} (hn : h < 2 ^ n) : i ∈ bl n h ↔ h.testBit i = true := by
  unfold bl
  rw [List.mem_filter, List.mem_range]
  constructor
  · exact fun z => z.2
  · intro z
    refine ⟨Nat.lt_of_not_le fun l => ?_, z⟩
    rw [Nat.testBit_lt_two_pow (Nat.lt_of_lt_of_le hn (Nat.pow_le_pow_right (by decide) l))] at z
    cases z
theorem bl_lt {n h i : Nat} (hi : i ∈ bl n h) : i < n := List.mem_range.mp (List.mem_filter.mp hi).1
def fb (ks : List Nat) : Nat := ks.foldl (fun h k => h ||| 2 ^ k) 0
theorem fold_bit (i : Nat) : ∀ (ks : List Nat) (h : Nat), (ks.foldl (fun h k => h ||| 2 ^ k) h).testBit i = (h.testBit i || decide (i ∈ ks))
  | [], h => by simp
  | k :: ks, h => by
    rw [List.foldl_cons, fold_bit i ks, Nat.testBit_or, Nat.testBit_two_pow, Bool.or_assoc]
    congr 1
    by_cases e : i = k
    · subst e; simp
    · have e2 : ¬ k = i := fun z => e z.symm
      simp [e, e2]
theorem fb_eq {ks : List Nat} {h : Nat} (hm : ∀ i, i ∈ ks ↔ h.testBit i = true) : fb ks = h := by
  refine Nat.eq_of_testBit_eq fun i => ?_
  unfold fb
  rw [fold_bit, Nat.zero_testBit, Bool.false_or]
  cases e : h.testBit i with
  | true => exact decide_eq_true ((hm i).mpr e)
  | false => exact decide_eq_false fun z => by rw [(hm i).mp z] at e; cases e
theorem fb_take {ks : List Nat} {i k : Nat} (h : ks[i]? = some k) : fb (ks.take (i + 1)) = fb (ks.take i) ||| 2 ^ k := by
  unfold fb
  rw [List.take_add_one, h]
  simp [List.foldl_append]
theorem fb_lt {ks : List Nat} {n : Nat} (hk : ∀ k ∈ ks, k < n) : fb ks < 2 ^ n := by
  refine Nat.lt_pow_two_of_testBit _ fun i hi => ?_
  unfold fb
  rw [fold_bit, Nat.zero_testBit, Bool.false_or]
  exact decide_eq_false fun z => by have := hk i z; omega
theorem intBits_nat {h : Nat} : h < 2 ^ (Builtin.Int.intBits (h : Int)) := by
  unfold Builtin.Int.intBits
  by_cases e : h = 0
  · subst e
    decide
  · rw [if_neg (by simpa using e)]
    have := Nat.lt_log2_self (n := h)
    simpa using this
theorem intBits_le60 {h n : Nat} (hh : h < 2 ^ n) : Builtin.Int.intBits (h : Int) ≤ n := PyProof.Rows.intBits_le (by simpa using hh)
/-! ### numbers as data -/
def nv (ns : List Nat) : List V := ns.map fun (n : Nat) => V.int (n : Int)
def nd' (ns : List Nat) : List PyData := ns.map fun (n : Nat) => PyData.int (n : Int)
theorem nv_at {ns : List Nat} {i n : Nat} (h : ns[i]? = some n) : (nv ns)[i]? = some (.int (n : Int)) := by
  unfold nv
  rw [List.getElem?_map, h]
  rfl
theorem nv_len (ns : List Nat) : (nv ns).length = ns.length := List.length_map ..
theorem dp_nv {K : PySem.W.Frag} {H : Hp} : ∀ ns : List Nat, DpAll K H (nv ns) (nd' ns)
  | [] => .nil
  | n :: ns => .cons (.int _) (dp_nv ns)
theorem nd_show : ∀ ns : List Nat, (∀ n ∈ ns, n < 2 ^ 61) → PyData.showableAll (nd' ns) = true
  | [], _ => rfl
  | n :: ns, h => by
    have h1 : n < 2 ^ 61 := h n List.mem_cons_self
    have e : n.log2 < 1920 := by
      by_cases z : n = 0
      · subst z; decide
      · exact Nat.lt_of_lt_of_le ((Nat.log2_lt z).mpr h1) (by decide)
    show (decide ((n : Int).natAbs.log2 < 1920) && PyData.showableAll (nd' ns)) = true
    rw [nd_show ns fun m hm => h m (List.mem_cons_of_mem _ hm), Bool.and_true]
    exact decide_eq_true (by simpa using e)
theorem nd_dict : ∀ ns : List Nat, PyData.hasDictAll (nd' ns) = false
  | [] => rfl
  | n :: ns => nd_dict ns
theorem nd_depth : ∀ ns : List Nat, PyData.depthAll (nd' ns) ≤ 1
  | [] => by simp [nd', PyData.depthAll]
  | n :: ns => by
    have := nd_depth ns
    show max _ (PyData.depthAll (nd' ns)) ≤ 1
    simp only [PyData.depth]
    omega
theorem nd_leaves : ∀ ns : List Nat, (∀ n ∈ ns, n < 2 ^ 61) → PyData.leavesShortAll 64 (nd' ns) = true
  | [], _ => rfl
  | n :: ns, h => by
    have h1 : n < 2 ^ 61 := h n List.mem_cons_self
    show (decide ((PyData.shown (.int (n : Int))).length ≤ 64) && PyData.leavesShortAll 64 (nd' ns)) = true
    rw [nd_leaves ns fun m hm => h m (List.mem_cons_of_mem _ hm), Bool.and_true]
    have h2 : (n : Int) < 10 ^ 19 := by omega
    exact decide_eq_true (Nat.le_trans (toString_length_le (v := (n : Int)) (by omega) (k := 19) (by decide) h2) (by decide))
theorem nd_weight : ∀ ns : List Nat, (∀ n ∈ ns, n < 2 ^ 61) → PyData.weightAll (nd' ns) ≤ 63 * ns.length
  | [], _ => Nat.le_refl _
  | n :: ns, h => by
    have h1 : n < 2 ^ 61 := h n List.mem_cons_self
    have ih := nd_weight ns fun m hm => h m (List.mem_cons_of_mem _ hm)
    have e : PyData.weight (.int (n : Int)) ≤ 62 := by
      simp only [PyData.weight]
      by_cases z : n = 0
      · subst z; decide
      · have := (Nat.log2_lt z).mpr h1
        rw [if_neg (by simpa using z)]
        simp
        omega
    show PyData.weight (.int (n : Int)) + 1 + PyData.weightAll (nd' ns) ≤ 63 * (ns.length + 1)
    omega
theorem nd_len {ns : List Nat} (h : ∀ n ∈ ns, n < 2 ^ 61) (hl : ns.length ≤ 1000) : (PyData.tuple (nd' ns)).shown.length ≤ sizeLine := by
  have h1 := PyData.shown_le 64 (by decide) (.tuple (nd' ns)) (nd_leaves ns h)
  have h2 : PyData.weight (.tuple (nd' ns)) ≤ 63 * ns.length := nd_weight ns h
  rw [sizeLine_eq]
  have h3 : (64 + 2) * PyData.weight (.tuple (nd' ns)) ≤ 66 * (63 * 1000) := Nat.mul_le_mul (by decide) (by omega)
  omega
end Bf
namespace Bf
open PySem PySem.Spec PyProof.Rows L2
/-! ### round orders -/
def rb (q h j : Nat) : List Nat := ((List.range q).map fun i => (j + i) % q).filter fun k => h.testBit k
def ar (q j k : Nat) : Int := ((k : Int) - (j : Int)) % (q : Int)
theorem ar_at {q i : Nat} (j : Nat) (hi : i < q) : ar q j ((j + i) % q) = (i : Int) := by
  unfold ar
  rw [Int.natCast_emod, Int.emod_sub_emod, Int.natCast_add, show (j : Int) + i - j = i by omega]
  exact Int.emod_eq_of_lt (by omega) (by omega)
theorem at_of {q x : Nat} (j : Nat) (hx : x < q) : ∃ i, i < q ∧ (j + i) % q = x := by
  have hq : 0 < q := by omega
  refine ⟨(x + (q - j % q)) % q, Nat.mod_lt _ hq, ?_⟩
  have hj : j % q < q := Nat.mod_lt _ hq
  rw [Nat.add_mod, Nat.mod_mod, ← Nat.add_mod]
  have e : j + (x + (q - j % q)) = x + q * (j / q + 1) := by
    have := Nat.div_add_mod j q
    rw [Nat.mul_add, Nat.mul_one]
    omega
  rw [e, Nat.add_mul_mod_self_left]
  exact Nat.mod_eq_of_lt hx
theorem mem_rb {q h j x : Nat} : x ∈ rb q h j ↔ x < q ∧ h.testBit x = true := by
  unfold rb
  rw [List.mem_filter, List.mem_map]
  constructor
  · rintro ⟨⟨i, hi, rfl⟩, hb⟩
    have hi := List.mem_range.mp hi
    exact ⟨Nat.mod_lt _ (by omega), hb⟩
  · rintro ⟨hx, hb⟩
    obtain ⟨i, hi, e⟩ := at_of j hx
    exact ⟨⟨i, List.mem_range.mpr hi, e⟩, hb⟩
theorem rb_len (q h j : Nat) : (rb q h j).length ≤ q := by
  have h1 := List.length_filter_le (fun k => h.testBit k) ((List.range q).map fun i => (j + i) % q)
  rw [List.length_map, List.length_range] at h1
  exact h1
theorem rb_sorted (q h j : Nat) : (rb q h j).Pairwise (fun a b => ar q j a < ar q j b) := by
  unfold rb
  refine List.Pairwise.filter _ ?_
  rw [List.pairwise_map]
  refine (List.pairwise_lt_range).imp_of_mem fun {a b} ha hb hab => ?_
  rw [ar_at j (List.mem_range.mp ha), ar_at j (List.mem_range.mp hb)]
  omega
theorem ar_inj {q j a b : Nat} (ha : a < q) (hb : b < q) (h : ar q j a = ar q j b) : a = b := by
  obtain ⟨i, hi, rfl⟩ := at_of j ha
  obtain ⟨k, hk, rfl⟩ := at_of j hb
  rw [ar_at j hi, ar_at j hk] at h
  have : i = k := by omega
  rw [this]
theorem uniq_sorted {α : Type} {key : α → Int} : ∀ {l m : List α}, l.Pairwise (fun a b => key a < key b) → m.Pairwise (fun a b => key a < key b) → (∀ x, x ∈ l ↔ x ∈ m) → l = m
  | [], [], _, _, _ => rfl
  | [], b :: m, _, _, h => absurd ((h b).mpr List.mem_cons_self) List.not_mem_nil
  | a :: l, [], _, _, h => absurd ((h a).mp List.mem_cons_self) List.not_mem_nil
  | a :: l, b :: m, hl, hm, h => by
    obtain ⟨l1, l2⟩ := List.pairwise_cons.mp hl
    obtain ⟨m1, m2⟩ := List.pairwise_cons.mp hm
    have e : a = b := by
      rcases List.mem_cons.mp ((h a).mp List.mem_cons_self) with e | ea
      · exact e
      · rcases List.mem_cons.mp ((h b).mpr List.mem_cons_self) with e | eb
        · exact e.symm
        · have x1 := m1 a ea
          have x2 := l1 b eb
          omega
    subst e
    congr 1
    refine uniq_sorted l2 m2 fun x => ⟨fun hx => ?_, fun hx => ?_⟩
    · rcases List.mem_cons.mp ((h x).mp (List.mem_cons_of_mem _ hx)) with e | e
      · subst e
        exact absurd (l1 x hx) (Int.lt_irrefl _)
      · exact e
    · rcases List.mem_cons.mp ((h x).mpr (List.mem_cons_of_mem _ hx)) with e | e
      · subst e
        exact absurd (m1 x hx) (Int.lt_irrefl _)
      · exact e
theorem bl_nodup (n h : Nat) : (bl n h).Nodup := List.Pairwise.filter _ List.nodup_range
theorem rb_eq {q h j : Nat} {rs : List Nat} (hq : q ≤ 60) (hh : h < 2 ^ q) (hp : rs.Perm (bl 60 h)) (hs : rs.Pairwise fun a b => ar q j a ≤ ar q j b) : rs = rb q h j := by
  have h60 : h < 2 ^ 60 := Nat.lt_of_lt_of_le hh (Nat.pow_le_pow_right (by decide) hq)
  have hlt : ∀ x ∈ rs, x < q := fun x hx => by
    have hx2 := (bl_mem h60).mp (hp.mem_iff.mp hx)
    exact Nat.lt_of_not_le fun l => by
      rw [Nat.testBit_lt_two_pow (Nat.lt_of_lt_of_le hh (Nat.pow_le_pow_right (by decide) l))] at hx2
      cases hx2
  have nd : rs.Nodup := hp.nodup_iff.mpr (bl_nodup 60 h)
  have st : rs.Pairwise fun a b => ar q j a < ar q j b := by
    have := List.Pairwise.and hs nd
    refine this.imp_of_mem fun {a b} ha hb hab => ?_
    have hne : ar q j a ≠ ar q j b := fun e => hab.2 (ar_inj (hlt a ha) (hlt b hb) e)
    have := hab.1
    omega
  refine uniq_sorted st (rb_sorted q h j) fun x => ?_
  rw [hp.mem_iff, bl_mem h60, mem_rb]
  constructor
  · exact fun hb => ⟨hlt x (hp.mem_iff.mpr ((bl_mem h60).mpr hb)), hb⟩
  · exact fun z => z.2
theorem rb_mod {q h j : Nat} : rb q h (j % q) = rb q h j := by
  unfold rb
  congr 1
  refine List.map_congr_left fun i _ => ?_
  rw [Nat.add_mod, Nat.mod_mod, ← Nat.add_mod]
theorem rb_mods {q h j k : Nat} (e : j % q = k % q) : rb q h j = rb q h k := by
  rw [← rb_mod (j := j), e, rb_mod]
/-- a ring turned -/
def tw (q by' : Nat) (ks : List Nat) : List Nat := ks.map fun s => (s + by') % q
theorem turn_inj {q a b by' : Nat} (ha : a < q) (hb : b < q) (h : (a + by') % q = (b + by') % q) : a = b := by
  have h1 : ar q by' ((by' + a) % q) = a := ar_at by' ha
  have h2 : ar q by' ((by' + b) % q) = b := ar_at by' hb
  rw [Nat.add_comm by' a, h, Nat.add_comm b by', h2] at h1
  omega
theorem twin_bit {q one by' x : Nat} (hq : q ≤ 60) (hh : one < 2 ^ q) (hx : x < q) : (fb (tw q by' (bl 60 one))).testBit ((x + by') % q) = one.testBit x := by
  have h60 : one < 2 ^ 60 := Nat.lt_of_lt_of_le hh (Nat.pow_le_pow_right (by decide) hq)
  unfold fb
  rw [fold_bit, Nat.zero_testBit, Bool.false_or]
  cases e : one.testBit x with
  | true => exact decide_eq_true (List.mem_map.mpr ⟨x, (bl_mem h60).mpr e, rfl⟩)
  | false =>
    refine decide_eq_false fun z => ?_
    obtain ⟨y, hy, ey⟩ := List.mem_map.mp z
    have hy2 := (bl_mem h60).mp hy
    have hyq : y < q := Nat.lt_of_not_le fun l => by
      rw [Nat.testBit_lt_two_pow (Nat.lt_of_lt_of_le hh (Nat.pow_le_pow_right (by decide) l))] at hy2
      cases hy2
    rw [turn_inj hyq hx ey, e] at hy2
    cases hy2
theorem twin_lt {q one by' : Nat} (hq : 0 < q) : fb (tw q by' (bl 60 one)) < 2 ^ q := fb_lt fun k hk => by
  obtain ⟨y, _, rfl⟩ := List.mem_map.mp hk
  exact Nat.mod_lt _ hq
theorem rb_turn {q one by' s : Nat} (hq0 : 0 < q) (hq : q ≤ 60) (hh : one < 2 ^ q) : rb q (fb (tw q by' (bl 60 one))) (s + by') = tw q by' (rb q one s) := by
  unfold rb tw
  have e : (List.range q).map (fun i => (s + by' + i) % q) = ((List.range q).map fun i => (s + i) % q).map fun k => (k + by') % q := by
    rw [List.map_map]
    refine List.map_congr_left fun i _ => ?_
    show (s + by' + i) % q = ((s + i) % q + by') % q
    rw [Nat.mod_add_mod]
    congr 1
    omega
  rw [e, List.filter_map]
  congr 1
  refine List.filter_congr fun x hx => ?_
  obtain ⟨i, _, rfl⟩ := List.mem_map.mp hx
  exact twin_bit hq hh (Nat.mod_lt _ hq0)
end Bf
namespace Bf
open PySem PySem.Spec PyProof.Rows L2
/-! ### heaps -/
def Keeps (a : Addr) (H H' : Hp) : Prop := ∀ b o, b ≠ a → H b = some o → H' b = some o
theorem Keeps.refl (a : Addr) (H : Hp) : Keeps a H H := fun _ _ _ h => h
theorem Keeps.trans {a : Addr} {H H1 H2 : Hp} (x : Keeps a H H1) (y : Keeps a H1 H2) : Keeps a H H2 := fun b o n h => y b o n (x b o n h)
theorem Keeps.new {a p : Addr} {H H1 : Hp} {o : HO} (x : Keeps a H H1) (h : H1 p = none) : Keeps a H (upd H1 p o) := fun b u n e => by
  have e1 := x b u n e
  rw [upd_ne (ne_of_none e1 h)]
  exact e1
theorem Keeps.at {a : Addr} {H H1 : Hp} {o : HO} (x : Keeps a H H1) : Keeps a H (upd H1 a o) := fun b u n e => by
  rw [upd_ne n]
  exact x b u n e
theorem Keeps.of_same {a : Addr} {H H1 : Hp} (x : Same H H1) : Keeps a H H1 := fun b u _ e => x b u e
theorem same_new {H H1 : Hp} {p : Addr} {o : HO} (x : Same H H1) (h : H1 p = none) : Same H (upd H1 p o) := fun b u e => by
  have e1 := x b u e
  rw [upd_ne (ne_of_none e1 h)]
  exact e1
/-- an expression that gives v, the heap as it was -/
def Gives (t : TE) (σ : L2.St) (H : Hp) (v : V) : Prop := ∀ Q : VK, Q v H → t σ H Q
theorem rd_ifI {tt : TT} {ta tb : TE} {σ : L2.St} {H : Hp} {Q : VK} (b : Bool) (P : Int → Prop) (h0 : ∀ Q' : Bool → Hp → Prop, Q' b H → tt σ H Q') (h1 : b = true → ∃ c : Int, P c ∧ Gives ta σ H (.int c)) (h2 : b = false → ∃ c : Int, P c ∧ Gives tb σ H (.int c))
    (h : ∀ c : Int, P c → Q (.int c) H) : tIf tt ta tb σ H Q := by
  refine h0 _ ?_
  cases b with
  | true => obtain ⟨c, hp, hc⟩ := h1 rfl; exact iteT (hc _ (h c hp))
  | false => obtain ⟨c, hp, hc⟩ := h2 rfl; exact iteF (hc _ (h c hp))
/-- the pot: three numbers at a; n counts what was drawn -/
def Pot (H : Hp) (a : Addr) (n : Nat) : Prop := ∃ x y z : Int, H a = some (.lst [.int x, .int y, .int z]) ∧ 0 ≤ x ∧ 0 ≤ y ∧ y < 2305843009213693952 ∧ 0 ≤ z ∧ z ≤ n
theorem Pot.up {H : Hp} {a : Addr} {n m : Nat} (h : Pot H a n) (l : n ≤ m) : Pot H a m := let ⟨x, y, z, h1, h2, h3, h4, h5, h6⟩ := h; ⟨x, y, z, h1, h2, h3, h4, h5, by omega⟩
theorem Pot.new {H : Hp} {a p : Addr} {n : Nat} {o : HO} (h : Pot H a n) (hp : H p = none) : Pot (upd H p o) a n := let ⟨x, y, z, h1, h2⟩ := h; ⟨x, y, z, by rw [upd_ne (ne_of_none h1 hp)]; exact h1, h2⟩
theorem Pot.same {H H' : Hp} {a : Addr} {n : Nat} (h : Pot H a n) (s : Same H H') : Pot H' a n := let ⟨x, y, z, h1, h2⟩ := h; ⟨x, y, z, s _ _ h1, h2⟩

theorem primes4 (n : Int) (h0 : 0 ≤ n) (h : n < 4) : ∃ v : Int, atI [V.int 2305843009213693951, .int 999999999989, .int 1000000000039, .int 67280421310721] n = some (.int v) ∧ 0 < v := by
  obtain ⟨m, rfl⟩ := Int.eq_ofNat_of_zero_le h0
  match m, h with
  | 0, _ => exact ⟨_, rfl, by decide⟩
  | 1, _ => exact ⟨_, rfl, by decide⟩
  | 2, _ => exact ⟨_, rfl, by decide⟩
  | 3, _ => exact ⟨_, rfl, by decide⟩
theorem nat_of {i : Int} {n : Nat} (h0 : 0 ≤ i) (h : i < n) : ∃ r : Nat, i = (r : Int) ∧ r < n := ⟨i.toNat, by omega, by omega⟩
/-! ### numbers that are not negative -/
theorem op_orN {X : Cx} : OpR X (binaryOp .BitOr) (fun x y H Q => ∃ n m : Nat, x = .int (n : Int) ∧ y = .int (m : Int) ∧ Q (.int ((n ||| m : Nat) : Int)) H) := by
  intro pins s σ H x y v u Q I rx ry h
  obtain ⟨n, m, rfl, rfl, q⟩ := h
  refine op_or pins s σ H _ _ v u Q I rx ry ⟨(n : Int), (m : Int), rfl, rfl, ?_⟩
  show Q (.int (Builtin.bitOr (n : Int) (m : Int))) H
  rw [bitOr_nn (Int.natCast_nonneg n) (Int.natCast_nonneg m)]
  exact q
theorem op_bit {X : Cx} : OpR X (binaryOp .LShift) (fun x y H Q => ∃ k : Nat, x = .int 1 ∧ y = .int (k : Int) ∧ k ≤ 134217727 ∧ Q (.int ((2 ^ k : Nat) : Int)) H) := by
  intro pins s σ H x y v u Q I rx ry h
  obtain ⟨k, rfl, rfl, hk, q⟩ := h
  refine op_oneShl pins s σ H _ _ v u Q I rx ry ⟨k, rfl, rfl, hk, ?_⟩
  rw [Int.natCast_pow] at q
  exact q
theorem op_shrNN {X : Cx} : OpR X (binaryOp .RShift) (fun x y H Q => ∃ n m : Nat, x = .int (n : Int) ∧ y = .int (m : Int) ∧ Q (.int ((n / 2 ^ m : Nat) : Int)) H) := by
  intro pins s σ H x y v u Q I rx ry h
  obtain ⟨n, m, rfl, rfl, q⟩ := h
  refine op_shrN pins s σ H _ _ v u Q I rx ry ⟨(n : Int), m, rfl, rfl, ?_⟩
  rw [Int.natCast_ediv, Int.natCast_pow] at q
  exact q
theorem iop_orN {X : Cx} : OpR X (inplaceOp .BitOr) (fun x y H Q => ∃ n m : Nat, x = .int (n : Int) ∧ y = .int (m : Int) ∧ Q (.int ((n ||| m : Nat) : Int)) H) := by
  intro pins s σ H x y v u Q I rx ry h
  obtain ⟨n, m, rfl, rfl, q⟩ := h
  refine iop_or pins s σ H _ _ v u Q I rx ry ⟨(n : Int), (m : Int), rfl, rfl, ?_⟩
  show Q (.int (Builtin.bitOr (n : Int) (m : Int))) H
  rw [bitOr_nn (Int.natCast_nonneg n) (Int.natCast_nonneg m)]
  exact q
section
variable {K : PySem.W.Frag} {f : Addr} {fd : FuncData}
/-! ### tuples that expressions give -/
theorem sameT {H H' : Hp} {a : Addr} {xs : List V} (e : Same H H') (h : SqT K H a xs) : SqT K H' a xs := by
  rcases h with (h | ⟨o, h⟩) | h
  · exact .inl (.inl (e _ _ h))
  · exact .inl (.inr ⟨o, e _ _ h⟩)
  · exact .inr h
def GT (K : PySem.W.Frag) (t : TE) (σ : L2.St) (H : Hp) (vs : List V) : Prop := ∀ H1, Same H H1 → ∀ Q : VK, (∀ H2 x, Same H1 H2 → SqT K H2 x vs → Q (.ref x) H2) → t σ H1 Q
theorem gt_var {i : Nat} {σ : L2.St} {H : Hp} {b : Addr} {vs : List V} (h : SqT K H b vs) (hi : σ[i]? = some (some (.ref b))) : GT K (tVar i) σ H vs := fun H1 s Q q => ⟨_, hi, q H1 b (Same.refl _) (sameT s h)⟩
theorem gt_rev {te : TE} {σ : L2.St} {H : Hp} {vs : List V} (h : GT K te σ H vs) : GT K (tRevT K te) σ H vs.reverse := fun H1 s Q q => h H1 s _ fun H2 x s2 hx =>
  ⟨x, vs, rfl, hx, fun p np => q _ p (same_new s2 np) (.inl (.inl upd_same))⟩
theorem gt_tup {te : TE} {σ : L2.St} {H : Hp} {i : Nat} {b : Addr} {vs : List V} (h : SqL K H b vs) (hi : σ[i]? = some (some (.ref b))) :
    GT K (tCB (fun xs H Q => ∃ p ys, xs = [.ref p] ∧ ((SqL K H p ys ∧ ∀ l, H l = none → Q (.ref l) (upd H l (.tup ys))) ∨ (SqT K H p ys ∧ Q (.ref p) H))) (tCons (tVar i) tNil)) σ H vs := fun H1 s Q q =>
  ⟨_, hi, b, vs, rfl, .inl ⟨s.seq h, fun p np => q _ p (same_new (Same.refl _) np) (.inl (.inl upd_same))⟩⟩
theorem gt_cut {te : TE} {σ : L2.St} {H : Hp} {vs : List V} {n : Nat} (h : GT K te σ H vs) : GT K (tSl (rSlA K) te tNoPart (tPart (tC (.int (n : Int))))) σ H (vs.take n) := fun H1 s Q q => h H1 s _ fun H2 x s2 hx => by
  refine ⟨_, rfl, x, vs, rfl, hx, fun w => ?_, fun w p np => ?_⟩
  · have e : vs.take n = vs := List.take_of_length_le (by
      have := w.2
      rw [HT.sIx_nat] at this
      omega)
    exact q H2 x s2 (by rw [e]; exact hx)
  · have e : cutV vs none (some (n : Int)) = vs.take n := by
      unfold cutV
      rw [HT.sIx_none, HT.sIx_nat, List.drop_zero, Nat.sub_zero]
      rcases Nat.le_total n vs.length with l | l
      · rw [Nat.min_eq_left l]
      · rw [Nat.min_eq_right l, List.take_of_length_le l, List.take_length]
    rw [e]
    exact q _ p (same_new s2 np) (.inl (.inl upd_same))
theorem gt_cat {ta tb : TE} {σ : L2.St} {H : Hp} {xs ys : List V} (ha : GT K ta σ H xs) (hb : GT K tb σ H ys) (hz : xs.length + ys.length ≤ sizeLine) : GT K (tOp (rCatA K) ta tb) σ H (xs ++ ys) := fun H1 s Q q => ha H1 s _ fun H2 x s2 hx =>
  hb H2 (s.trans s2) _ fun H3 y s3 hy => by
    refine ⟨x, y, xs, ys, rfl, rfl, sameT s3 hx, hy, hz, fun e => ?_, fun _ e => ?_, fun _ _ p np => ?_⟩
    · exact q H3 y (s2.trans s3) (by rw [e]; exact hy)
    · exact q H3 x (s2.trans s3) (by rw [e, List.append_nil]; exact sameT s3 hx)
    · exact q _ p (same_new (s2.trans s3) np) (.inl (.inl upd_same))
theorem gt_rep {ta : TE} {σ : L2.St} {H : Hp} {xs : List V} {n : Nat} (ha : GT K ta σ H xs) (h2 : 2 ≤ n) (h1 : n ≤ 1000) (hz : xs.length ≤ 1000) : GT K (tOp (rRepA K) ta (tC (.int (n : Int)))) σ H (List.replicate n xs).flatten := fun H1 s Q q => ha H1 s _ fun H2 x s2 hx => by
  refine ⟨x, n, xs, rfl, rfl, hx, by omega, by omega, hz, fun e => ?_, fun _ p np => ?_⟩
  · have e2 : (List.replicate n xs).flatten = xs := by
      subst e
      simp
    exact q H2 x s2 (by rw [e2]; exact hx)
  · exact q _ p (same_new s2 np) (.inl (.inl upd_same))
theorem nv_rev (ks : List Nat) : (nv ks).reverse = nv ks.reverse := by unfold nv; rw [List.map_reverse]
theorem nv_take (ks : List Nat) (n : Nat) : (nv ks).take n = nv (ks.take n) := by unfold nv; rw [List.map_take]
theorem nv_app (ks js : List Nat) : nv ks ++ nv js = nv (ks ++ js) := by unfold nv; rw [List.map_append]
theorem nv_rep (ks : List Nat) (n : Nat) : (List.replicate n (nv ks)).flatten = nv (List.replicate n ks).flatten := by unfold nv; rw [List.map_flatten, List.map_replicate]
theorem mem_rep {ks : List Nat} {n x : Nat} : x ∈ (List.replicate (n + 1) ks).flatten ↔ x ∈ ks := by
  constructor
  · intro h
    obtain ⟨l, hl, hx⟩ := List.mem_flatten.mp h
    rw [List.eq_of_mem_replicate hl] at hx
    exact hx
  · exact fun h => List.mem_flatten.mpr ⟨ks, List.mem_replicate.mpr ⟨by omega, rfl⟩, h⟩
theorem same_keeps {H H0 H' : Hp} {p : Addr} (hp : H p = none) (s : Same H H0) (k : Keeps p H0 H') : Same H H' := fun b o e => k b o (ne_of_none e hp) (s b o e)
theorem dp_tup {H : Hp} {a : Addr} {ns : List Nat} (h : SqT K H a (nv ns)) : Dp K H (.ref a) (.tuple (nd' ns)) := .tup h (dp_nv ns)
theorem nd_canAll : ∀ ns : List Nat, PyData.canLayAll0 (nd' ns) = true
  | [] => rfl
  | n :: ns => nd_canAll ns
theorem nd_can (ns : List Nat) : PyData.canLay0 (.tuple (nd' ns)) = true := nd_canAll ns
theorem nd_dep (ns : List Nat) : PyData.depth (.tuple (nd' ns)) ≤ 2 := by
  have := nd_depth ns
  show PyData.depthAll (nd' ns) + 1 ≤ 2
  omega
theorem nd_shaped (ns : List Nat) : SeqAt.shaped (.tuple (nd' ns)) = true := by
  unfold SeqAt.shaped
  rw [nd_can, Bool.true_and]
  exact decide_eq_true (Nat.le_trans (nd_dep ns) (by decide))
theorem bl_small {n h i : Nat} (hn : n ≤ 60) (hi : i ∈ bl n h) : i < 2 ^ 61 := Nat.lt_trans (Nat.lt_of_lt_of_le (bl_lt hi) hn) (by decide)
theorem log_small {n : Nat} (h : n < 2 ^ 61) : (n : Int).natAbs.log2 < 1920 := by
  by_cases z : n = 0
  · subst z; decide
  · have := (Nat.log2_lt z).mpr h
    simpa using (Nat.lt_of_lt_of_le this (by decide) : n.log2 < 1920)
theorem kb1 {x n : Str} {st : Stmt} (F : Fun K x x st f fd) (h1 : ∀ (kV doc pm : Value) (an : Option Addr) (cdv ct u : Value), bindArgs (PySem.W.fnOf x x (defArgs st) (defBody st) (defScope st) .none kV doc pm an cdv ct) ⟨[], [(n, u)]⟩ = pure [(n, u)])
    (h2 : ∀ (kV doc pm : Value) (an : Option Addr) (cdv ct u : Value), bindArgs (PySem.W.fnOf x x (defArgs st) (defBody st) (defScope st) .none kV doc pm an cdv ct) ⟨[u], []⟩ = pure [(n, u)]) : KBinds K fd [n] [n] (fun us ws => us ++ ws) (fun vs zs => vs ++ zs) := by
  obtain ⟨oc, od, kV, doc, pm, an, cdv, ct, osl, rfl, lk, hcd⟩ := F.ex
  refine ⟨fun s us ws _ hl => ?_, fun r1 r2 => r1.append r2⟩
  match us, ws, hl with
  | [], [u], _ => exact .of_eq (h1 kV doc pm an cdv ct u)
  | [u], [], _ => exact .of_eq (h2 kV doc pm an cdv ct u)
  | [], [], hl => cases hl
  | [], _ :: _ :: _, hl => exact absurd (Nat.succ.inj hl) (by simp)
  | [_], _ :: _, hl => exact absurd (Nat.succ.inj hl) (by simp)
  | _ :: _ :: _, _, hl => exact absurd (Nat.succ.inj hl) (by simp)
end
/-- where a def of the top stands -/
structure DefAt (K : PySem.W.Frag) (x : Str) (st : Stmt) (f : Addr) : Prop where
  at_ : PySem.W.nsIn K mainGlobals x = some (some (.ref f))
  fn : ∃ fd, Fun K x x st f fd
theorem mkD {K : PySem.W.Frag} {x : Str} {st : Stmt} {f : Addr} {oc kV doc pm cdv ct : Value} {od an : Option Addr} {osl : Array (Option Value)} (a : PySem.W.nsIn K mainGlobals x = some (some (.ref f)))
    (l : K.lookup f = some ⟨oc, od, .func (PySem.W.fnOf x x (defArgs st) (defBody st) (defScope st) .none kV doc pm an cdv ct), osl⟩) (c : PySem.W.codeIn K cdv x = true) (k : PySem.W.keepIn K (.ref f) = true) : DefAt K x st f := ⟨a, _, fun_mk (st := st) l c k⟩

/-! ### tables and pots -/
open LamX NdefX
def KT (a : Addr) (H H' : Hp) : Prop := ∀ b o, b ≠ a → H b = some o → (∀ ps, o ≠ .tbl ps) → H' b = some o
theorem KT.refl (a : Addr) (H : Hp) : KT a H H := fun _ _ _ h _ => h
theorem KT.trans {a : Addr} {H H1 H2 : Hp} (x : KT a H H1) (y : KT a H1 H2) : KT a H H2 := fun b o n h t => y b o n (x b o n h t) t
theorem KT.k {a : Addr} {H H1 : Hp} (x : Keeps a H H1) : KT a H H1 := fun b o n h _ => x b o n h
theorem KT.e {a : Addr} {H H1 : Hp} (x : ExtN H H1) : KT a H H1 := fun b o _ h t => x b o h t
theorem ExtN.s {H H1 : Hp} (x : Same H H1) : ExtN H H1 := ExtN.of x
theorem Pot.ext {H H' : Hp} {a : Addr} {n : Nat} (h : Pot H a n) (s : ExtN H H') : Pot H' a n := let ⟨x, y, z, h1, h2⟩ := h; ⟨x, y, z, s _ _ h1 (fun ps z => nomatch z), h2⟩
theorem tabs_keeps {T : List (Addr × Str)} {H H' : Hp} {a : Addr} {m : Nat} (p : Pot H a m) (t : Tabs T H) (k : Keeps a H H') : Tabs T H' := fun q hq => by
  obtain ⟨x, y, z, hH, _⟩ := p
  obtain ⟨ps, h1, h2, h3⟩ := t q hq
  refine ⟨ps, k _ _ (fun e => ?_) h1, h2, fun pos cv hc => ?_⟩
  · rw [e, hH] at h1
    cases h1
  · obtain ⟨c, e1, e2⟩ := h3 pos cv hc
    refine ⟨c, e1, k _ _ (fun e => ?_) e2⟩
    rw [e, hH] at e2
    unfold CodeO at e2
    cases e2
theorem ext_new {H H1 : Hp} {p : Addr} {o : HO} (x : ExtN H H1) (h : H1 p = none) : ExtN H (upd H1 p o) := fun b u e t => by
  have e1 := x b u e t
  rw [upd_ne (ne_of_none e1 h)]
  exact e1
theorem tabs_new {T : List (Addr × Str)} {H : Hp} {p : Addr} {o : HO} (t : Tabs T H) (h : H p = none) : Tabs T (upd H p o) := t.ext fun b u e => by
  rw [upd_ne (ne_of_none e h)]
  exact e
theorem extT {K : PySem.W.Frag} {H H' : Hp} {a : Addr} {xs : List V} (e : ExtN H H') (h : SqT K H a xs) : SqT K H' a xs := ext_tup e h
theorem extL {K : PySem.W.Frag} {H H' : Hp} {a : Addr} {xs : List V} (e : ExtN H H') (h : SqL K H a xs) : SqL K H' a xs := by
  rcases h with (h | ⟨o, h⟩) | h
  · exact .inl (.inl (e _ _ h (fun ps z => nomatch z)))
  · exact .inl (.inr ⟨o, e _ _ h (fun ps z => nomatch z)⟩)
  · exact .inr h
theorem ext_kt {H H0 H' : Hp} {p : Addr} (hp : H p = none) (s : ExtN H H0) (k : KT p H0 H') : ExtN H H' := fun b o e t => k b o (ne_of_none e hp) (s b o e t) t
/-- a def whose body makes a lambda: its code object is at c -/
structure FunT (K : PySem.W.Frag) (x : Str) (st : Stmt) (f : Addr) (fd : FuncData) (c : Addr) : Prop where
  ex : ∃ (oc : Value) (od : Option Addr) (kV doc pm : Value) (an : Option Addr) (ct : Value) (osl : Array (Option Value)),
    fd = PySem.W.fnOf x x (defArgs st) (defBody st) (defScope st) .none kV doc pm an (.ref c) ct ∧ K.lookup f = some ⟨oc, od, .func fd, osl⟩ ∧ PySem.W.codeIn K (.ref c) x = true
  kp : PySem.W.keepIn K (.ref f) = true
theorem FunT.ok {P : Program} {w : World} {K : PySem.W.Frag} {mg : Str → Option Value} {base : Heap} {x : Str} {st : Stmt} {f c : Addr} {fd : FuncData} {N ps : List Str} {k : Nat} {sp : Sp} (F : FunT K x st f fd c) (S : FnScope N ps (defScope st)) (len : ∀ vs H Q E, sp vs H Q E → vs.length = ps.length)
    (hbody : ∀ (A : Around) (outer : List Env) (s : Shared) (H : Hp) (vs : List V) (Q : VK) (E : XK), Room k (A.deeper (envOfC x (defScope st) s.heap.objs.size f (.ref c))) → sp vs H Q E →
      ∃ t, PSs (cxOf CX0 P w K mg base N x (defScope st) f (.ref c) A outer s H E).nox (defBody st) t ∧ t { nx := fun _ H' => Q .non H', rt := Q } (start N vs) H) : FnOk P w K mg base CX0 (k + 1) f fd ps sp := by
  obtain ⟨oc, od, kV, doc, pm, an, ct, osl, rfl, lk, hcd⟩ := F.ex
  refine fn_of lk hcd S len fun A outer s H vs Q E hr hs => ?_
  obtain ⟨t, h, q⟩ := hbody A outer s H vs Q E hr hs
  exact ⟨t, h.nox, q⟩
theorem FunT.fn {K : PySem.W.Frag} {x : Str} {st : Stmt} {f c : Addr} {fd : FuncData} (F : FunT K x st f fd c) : Fun K x x st f fd := let ⟨oc, od, kV, doc, pm, an, ct, osl, e, lk, hcd⟩ := F.ex; ⟨⟨oc, od, kV, doc, pm, an, .ref c, ct, osl, e, lk, hcd⟩, F.kp⟩
abbrev lamNm : Str := (("round_bits" : Str) ++ (".<locals>." : Str)) ++ ("<lambda>" : Str)
end Bf
namespace Bf
open PySem PySem.Spec PyProof.Rows L2
/-! ### ways -/
def wf (s : Nat) (ks : List Nat) : Nat := ks.foldl (fun h k => h ^^^ 2 ^ k) s
def wl (s : Nat) (ks : List Nat) : List Nat := (List.range (ks.length + 1)).map fun i => wf s (ks.take i)
theorem wf_snoc (s : Nat) (ks : List Nat) (k : Nat) : wf s (ks ++ [k]) = wf s ks ^^^ 2 ^ k := by
  unfold wf
  rw [List.foldl_append]
  rfl
theorem wl_snoc (s : Nat) (ks : List Nat) (k : Nat) : wl s (ks ++ [k]) = wl s ks ++ [wf s ks ^^^ 2 ^ k] := by
  unfold wl
  rw [List.length_append, List.length_singleton, List.range_succ, List.map_append]
  congr 1
  · refine List.map_congr_left fun i hi => ?_
    have := List.mem_range.mp hi
    rw [List.take_append_of_le_length (by omega)]
  · show [wf s ((ks ++ [k]).take (ks.length + 1))] = _
    rw [List.take_of_length_le (by rw [List.length_append]; simp), wf_snoc]
theorem wl_last (s : Nat) (ks : List Nat) : ∃ l, wl s ks = l ++ [wf s ks] := by
  refine ⟨(List.range ks.length).map fun i => wf s (ks.take i), ?_⟩
  unfold wl
  rw [List.range_succ, List.map_append]
  simp
theorem wl_len (s : Nat) (ks : List Nat) : (wl s ks).length = ks.length + 1 := by
  unfold wl
  rw [List.length_map, List.length_range]
theorem wl_nil (s : Nat) : wl s [] = [s] := rfl
theorem wl_at {s : Nat} {ks : List Nat} {i : Nat} (h : i ≤ ks.length) : (wl s ks)[i]? = some (wf s (ks.take i)) := by
  unfold wl
  rw [List.getElem?_map, List.getElem?_range (by omega)]
  rfl
theorem wf_lt {q : Nat} : ∀ {ks : List Nat} {s : Nat}, s < 2 ^ q → (∀ k ∈ ks, k < q) → wf s ks < 2 ^ q
  | [], s, h, _ => h
  | k :: ks, s, h, hk => wf_lt (ks := ks) (Nat.xor_lt_two_pow h (Nat.pow_lt_pow_right (by decide) (hk k List.mem_cons_self))) fun x hx => hk x (List.mem_cons_of_mem _ hx)
theorem wf_xor : ∀ (ks : List Nat) (s : Nat), wf s ks = s ^^^ wf 0 ks
  | [], s => by simp [wf]
  | k :: ks, s => by
    have h1 := wf_xor ks (s ^^^ 2 ^ k)
    have h2 := wf_xor ks (0 ^^^ 2 ^ k)
    show wf (s ^^^ 2 ^ k) ks = s ^^^ wf (0 ^^^ 2 ^ k) ks
    rw [h1, h2, Nat.zero_xor, Nat.xor_assoc]
theorem wf_bit {i : Nat} : ∀ {ks : List Nat}, ks.Nodup → (wf 0 ks).testBit i = decide (i ∈ ks)
  | [], _ => by simp [wf]
  | k :: ks, nd => by
    obtain ⟨n1, n2⟩ := List.nodup_cons.mp nd
    have h2 := wf_xor ks (0 ^^^ 2 ^ k)
    show (wf (0 ^^^ 2 ^ k) ks).testBit i = _
    rw [h2, Nat.zero_xor, Nat.testBit_xor, wf_bit n2, Nat.testBit_two_pow]
    by_cases e : i = k
    · subst e
      simp [n1]
    · have e2 : ¬ k = i := fun z => e z.symm
      simp [e, e2]
theorem rb_nodup (q h j : Nat) : (rb q h j).Nodup := (rb_sorted q h j).imp fun {a b} hab e => by
  subst e
  exact Int.lt_irrefl _ hab
theorem wf_rb {q d j : Nat} (hd : d < 2 ^ q) : wf 0 (rb q d j) = d := by
  refine Nat.eq_of_testBit_eq fun i => ?_
  rw [wf_bit (rb_nodup q d j)]
  cases e : d.testBit i with
  | true =>
    refine decide_eq_true (mem_rb.mpr ⟨Nat.lt_of_not_le fun l => ?_, e⟩)
    rw [Nat.testBit_lt_two_pow (Nat.lt_of_lt_of_le hd (Nat.pow_le_pow_right (by decide) l))] at e
    cases e
  | false =>
    refine decide_eq_false fun z => ?_
    rw [(mem_rb.mp z).2] at e
    cases e
/-- the turns behind the first, so many of them -/
def tp (q d j n : Nat) : List Nat := ((List.range n).map fun i => (j + (1 + i)) % q).filter fun k => d.testBit k
theorem tp_succ (q d j n : Nat) : tp q d j (n + 1) = tp q d j n ++ (if d.testBit ((j + (1 + n)) % q) = true then [(j + (1 + n)) % q] else []) := by
  unfold tp
  rw [List.range_succ, List.map_append, List.filter_append]
  cases e : d.testBit ((j + (1 + n)) % q) <;> simp [e]
theorem tp_len (q d j n : Nat) : (tp q d j n).length ≤ n := by
  have h1 := List.length_filter_le (fun k => d.testBit k) ((List.range n).map fun i => (j + (1 + i)) % q)
  rw [List.length_map, List.length_range] at h1
  exact h1
theorem tp_lt {q d j n k : Nat} (hq : 0 < q) (h : k ∈ tp q d j n) : k < q := by
  unfold tp at h
  obtain ⟨i, _, rfl⟩ := List.mem_map.mp (List.mem_filter.mp h).1
  exact Nat.mod_lt _ hq
theorem rb_split {q d j : Nat} (hj : j < q) : rb q d j = (if d.testBit j = true then [j] else []) ++ tp q d j (q - 1) := by
  unfold rb tp
  obtain ⟨n, rfl⟩ : ∃ n, q = n + 1 := ⟨q - 1, by omega⟩
  rw [List.range_succ_eq_map, List.map_cons, Nat.add_sub_cancel, Nat.add_zero, Nat.mod_eq_of_lt hj, List.map_map]
  have e : (List.range n).map ((fun i => (j + i) % (n + 1)) ∘ Nat.succ) = (List.range n).map fun i => (j + (1 + i)) % (n + 1) := List.map_congr_left fun i _ => by
    show (j + (i + 1)) % (n + 1) = _
    rw [Nat.add_comm i 1]
  rw [e]
  cases eb : d.testBit j <;> simp [eb]
/-- the bits crossed in tree j -/
def cl (q d j : Nat) : List Nat := j :: tp q d j (q - 1) ++ (if d.testBit j = true then [] else [j])
theorem cl_in {q d j : Nat} (hj : j < q) (h : d.testBit j = true) : cl q d j = rb q d j := by
  rw [rb_split hj]
  unfold cl
  simp [h]
theorem cl_out {q d j : Nat} (hj : j < q) (h : d.testBit j = false) : cl q d j = [j] ++ rb q d j ++ [j] := by
  rw [rb_split hj]
  unfold cl
  simp [h]
theorem cl_lt {q d j k : Nat} (hj : j < q) (h : k ∈ cl q d j) : k < q := by
  unfold cl at h
  rcases List.mem_append.mp h with h | h
  · rcases List.mem_cons.mp h with rfl | h
    · exact hj
    · exact tp_lt (by omega) h
  · split at h
    · exact absurd h List.not_mem_nil
    · rw [List.mem_singleton.mp h]
      exact hj
theorem cl_len (q d j : Nat) (hq : 0 < q) : (cl q d j).length ≤ q + 1 := by
  unfold cl
  have := tp_len q d j (q - 1)
  rw [List.length_append, List.length_cons]
  split <;> simp <;> omega
theorem cl_ne (q d j : Nat) : cl q d j ≠ [] := by
  unfold cl
  simp
theorem wf_cl {q d j : Nat} (hj : j < q) (hd : d < 2 ^ q) (s : Nat) : wf s (cl q d j) = s ^^^ d := by
  rw [wf_xor]
  congr 1
  cases e : d.testBit j with
  | true => rw [cl_in hj e, wf_rb hd]
  | false =>
    rw [cl_out hj e, wf_snoc]
    have h1 : wf 0 ([j] ++ rb q d j) = 2 ^ j ^^^ d := by
      show wf (0 ^^^ 2 ^ j) (rb q d j) = _
      rw [wf_xor, wf_rb hd, Nat.zero_xor]
    rw [h1, Nat.xor_comm (2 ^ j) d, Nat.xor_assoc, Nat.xor_self, Nat.xor_zero]
end Bf
namespace Bf
open PySem PySem.Spec PyProof.Rows L2 LamX NdefX
theorem op_xorN {X : Cx} : OpR X (binaryOp .BitXor) (fun x y H Q => ∃ n m : Nat, x = .int (n : Int) ∧ y = .int (m : Int) ∧ Q (.int ((n ^^^ m : Nat) : Int)) H) := by
  intro pins s σ H x y v u Q I rx ry h
  obtain ⟨n, m, rfl, rfl, q⟩ := h
  refine op_xor pins s σ H _ _ v u Q I rx ry ⟨(n : Int), (m : Int), rfl, rfl, ?_⟩
  show Q (.int (Builtin.bitXor (n : Int) (m : Int))) H
  rw [Bits.bitXor_pp (Int.natCast_nonneg n) (Int.natCast_nonneg m)]
  exact q
theorem op_modNN {X : Cx} : OpR X (binaryOp .Mod) (fun x y H Q => ∃ n m : Nat, x = .int (n : Int) ∧ y = .int (m : Int) ∧ 0 < m ∧ Q (.int ((n % m : Nat) : Int)) H) := by
  intro pins s σ H x y v u Q I rx ry h
  obtain ⟨n, m, rfl, rfl, hm, q⟩ := h
  refine op_mod pins s σ H _ _ v u Q I rx ry ⟨(n : Int), (m : Int), rfl, rfl, (show (0 : Int) < (m : Int) by omega), ?_⟩
  rw [Int.natCast_emod] at q
  exact q
/-! ### defs with source=0 behind a star -/
abbrev FunS (K : PySem.W.Frag) (x : Str) (st : Stmt) (f : Addr) (fd : FuncData) : Prop := FunD K x x (defArgs st) (defBody st) (defScope st) [] [("source", .int 0)] f fd
theorem FunS.go {P : Program} {w : World} {K : PySem.W.Frag} {mg : Str → Option Value} {base : Heap} {x : Str} {st : Stmt} {f : Addr} {fd : FuncData} {N ps : List Str} {k : Nat} {sp : Sp} (F : FunS K x st f fd) (S : FnScope N ps (defScope st)) (len : ∀ vs H Q E, sp vs H Q E → vs.length = ps.length)
    (hbody : ∀ (cdv : Value) (A : Around) (outer : List Env) (s : Shared) (H : Hp) (vs : List V) (Q : VK) (E : XK), Room k (A.deeper (envOfC x (defScope st) s.heap.objs.size f cdv)) → sp vs H Q E →
      ∃ t, PSs (cxOf CX0 P w K mg base N x (defScope st) f cdv A outer s H E).nox (defBody st) t ∧ t { nx := fun _ H' => Q .non H', rt := Q } (start N vs) H) : FnOk P w K mg base CX0 (k + 1) f fd ps sp :=
  FunD.ok F S len fun cdv A outer s H vs Q E hr hs => let ⟨t, h, q⟩ := hbody cdv A outer s H vs Q E hr hs; ⟨t, h.nox, q⟩
def g3 {α : Type} (us ws : List α) : List α := match us, ws with
  | [a, b, c], [d] => [a, b, c, d]
  | _, _ => []
theorem g3_rel {vs zs : List V} {us ws : List Value} (r1 : Vals vs us) (r2 : Vals zs ws) : Vals (g3 vs zs) (g3 us ws) := by
  match r1, r2 with
  | .nil, _ => exact .nil
  | .cons _ .nil, _ => exact .nil
  | .cons _ (.cons _ .nil), _ => exact .nil
  | .cons _ (.cons _ (.cons _ .nil)), .nil => exact .nil
  | .cons a (.cons b (.cons c .nil)), .cons d .nil => exact .cons a (.cons b (.cons c (.cons d .nil)))
  | .cons _ (.cons _ (.cons _ .nil)), .cons _ (.cons _ _) => exact .nil
  | .cons _ (.cons _ (.cons _ (.cons _ _))), _ => exact .nil
theorem g3_len {us ws : List Value} (h : (g3 us ws).length = 4) : ∃ a b c d, us = [a, b, c] ∧ ws = [d] := by
  match us, ws, h with
  | [a, b, c], [d], _ => exact ⟨a, b, c, d, rfl, rfl⟩
  | [], _, h => cases h
  | [_], _, h => cases h
  | [_, _], _, h => cases h
  | [_, _, _], [], h => cases h
  | [_, _, _], _ :: _ :: _, h => cases h
  | _ :: _ :: _ :: _ :: _, _, h => cases h
theorem kbS {K : PySem.W.Frag} {x : Str} {st : Stmt} {f : Addr} {fd : FuncData} (F : FunS K x st f fd) (h : ∀ (kV doc pm : Value) (an : Option Addr) (cdv ct a b c d : Value), bindArgs (PySem.W.fnOf x x (defArgs st) (defBody st) (defScope st) .none kV doc pm an cdv ct) ⟨[a, b, c], [(("source" : Str), d)]⟩ = pure ([("q", a), ("hand", b), ("j", c), ("source", d)] : List (Str × Value))) :
    KBinds K fd ["q", "hand", "j", "source"] ["source"] g3 g3 := by
  obtain ⟨oc, od, dV, kV, doc, pm, an, cdv, ct, osl, rfl, lk, hcd, hD, hK⟩ := F.ex
  rcases hD with ⟨_, rfl⟩ | ⟨z, _⟩
  · refine ⟨fun s us ws _ hl => ?_, fun r1 r2 => g3_rel r1 r2⟩
    obtain ⟨a, b, c, d, rfl, rfl⟩ := g3_len hl
    exact .of_eq (h kV doc pm an cdv ct a b c d)
  · exact absurd rfl z
/-! ### tuples that expressions give, tables aside -/
def GE (K : PySem.W.Frag) (T : List (Addr × Str)) (t : TE) (σ : L2.St) (H : Hp) (vs : List V) : Prop := ∀ H1, ExtN H H1 → Tabs T H1 → ∀ Q : VK, (∀ H2 x, ExtN H1 H2 → Tabs T H2 → SqT K H2 x vs → Q (.ref x) H2) → t σ H1 Q
theorem ge_cat {K : PySem.W.Frag} {T : List (Addr × Str)} {ta tb : TE} {σ : L2.St} {H : Hp} {xs ys : List V} (ha : GE K T ta σ H xs) (hb : GE K T tb σ H ys) (hz : xs.length + ys.length ≤ sizeLine) : GE K T (tOp (rCatA K) ta tb) σ H (xs ++ ys) := fun H1 s t Q q => ha H1 s t _ fun H2 x s2 t2 hx =>
  hb H2 (s.trans s2) t2 _ fun H3 y s3 t3 hy => by
    refine ⟨x, y, xs, ys, rfl, rfl, extT s3 hx, hy, hz, fun e => ?_, fun _ e => ?_, fun _ _ p np => ?_⟩
    · exact q H3 y (s2.trans s3) t3 (by rw [e]; exact hy)
    · exact q H3 x (s2.trans s3) t3 (by rw [e, List.append_nil]; exact extT s3 hx)
    · exact q _ p (ext_new (s2.trans s3) np) (tabs_new t3 np) (.inl (.inl upd_same))
theorem ge_one {K : PySem.W.Frag} {T : List (Addr × Str)} {i : Nat} {σ : L2.St} {H : Hp} {v : V} (hi : σ[i]? = some (some v)) : GE K T (tTup (tCons (tVar i) tNil)) σ H [v] := fun H1 s t Q q =>
  ⟨v, hi, (by show 1 ≤ sizeLine; decide), fun p np => q _ p (ext_new (ExtN.refl H1) np) (tabs_new t np) (.inl (.inl upd_same))⟩
end Bf
namespace Bf
open PySem PySem.Spec PyProof.Rows L2
/-! ### who hears whom -/
theorem sorted_last {α : Type} {key : α → Int} {k : α} : ∀ {l : List α}, l.Pairwise (fun a b => key a < key b) → (l.getLast? = some k ↔ k ∈ l ∧ ∀ x ∈ l, key x ≤ key k)
  | [], _ => by simp
  | [a], _ => by
    simp only [List.getLast?_singleton, Option.some.injEq, List.mem_singleton]
    constructor
    · rintro rfl
      exact ⟨rfl, fun x hx => by rw [hx]; exact Int.le_refl _⟩
    · exact fun h => h.1.symm
  | a :: b :: l, hp => by
    obtain ⟨h1, h2⟩ := List.pairwise_cons.mp hp
    have ih := sorted_last (k := k) h2
    rw [List.getLast?_cons_cons, ih]
    constructor
    · rintro ⟨m, h⟩
      refine ⟨List.mem_cons_of_mem _ m, fun x hx => ?_⟩
      rcases List.mem_cons.mp hx with rfl | hx
      · exact Int.le_of_lt (h1 k m)
      · exact h x hx
    · rintro ⟨m, h⟩
      have hb := h1 b List.mem_cons_self
      have hb2 := h b (List.mem_cons_of_mem _ List.mem_cons_self)
      rcases List.mem_cons.mp m with rfl | m
      · omega
      · exact ⟨m, fun x hx => h x (List.mem_cons_of_mem _ hx)⟩
theorem bit_xor (d k x : Nat) : (d ^^^ 2 ^ k).testBit x = (d.testBit x ^^ decide (k = x)) := by rw [Nat.testBit_xor, Nat.testBit_two_pow]
theorem lt_of_bit {d q x : Nat} (hd : d < 2 ^ q) (h : d.testBit x = true) : x < q := Nat.lt_of_not_le fun l => by
  rw [Nat.testBit_lt_two_pow (Nat.lt_of_lt_of_le hd (Nat.pow_le_pow_right (by decide) l))] at h
  cases h
theorem ar_self {q j : Nat} : ar q j j = 0 := by
  unfold ar
  rw [Int.sub_self, Int.zero_emod]
theorem ar_nn {q j x : Nat} (hq : 0 < q) : 0 ≤ ar q j x := Int.emod_nonneg _ (by omega)
theorem ar_lt {q j x : Nat} (hq : 0 < q) : ar q j x < q := Int.emod_lt_of_pos _ (by omega)
/-- k is the last bit crossed to the hand across by k -/
def Hr (q d j k : Nat) : Prop := (cl q (d ^^^ 2 ^ k) j).getLast? = some k
theorem hr_iff {q d j k : Nat} (hj : j < q) (hk : k < q) (hd : d < 2 ^ q) : Hr q d j k ↔ (k = j ∧ (d = 0 ∨ d.testBit j = true)) ∨ (d.testBit j = true ∧ k ≠ j ∧ ∀ x, d.testBit x = true → ar q j x < ar q j k) := by
  have hq : 0 < q := by omega
  have hd' : d ^^^ 2 ^ k < 2 ^ q := Nat.xor_lt_two_pow hd (Nat.pow_lt_pow_right (by decide) hk)
  have bj := bit_xor d k j
  unfold Hr
  by_cases e : k = j
  · subst e
    rw [decide_eq_true rfl] at bj
    cases b : d.testBit k with
    | true =>
      rw [b] at bj
      rw [cl_out hj bj, List.getLast?_append, List.getLast?_singleton]
      simp
    | false =>
      rw [b] at bj
      rw [cl_in hj bj, sorted_last (rb_sorted q _ k)]
      constructor
      · rintro ⟨m, h⟩
        refine .inl ⟨rfl, .inl ?_⟩
        refine Nat.eq_of_testBit_eq fun x => ?_
        rw [Nat.zero_testBit]
        cases bx : d.testBit x with
        | false => rfl
        | true =>
          exfalso
          have hx : x < q := lt_of_bit hd bx
          have hxk : k ≠ x := fun z => by rw [z, bx] at b; cases b
          have hx2 : x ∈ rb q (d ^^^ 2 ^ k) k := mem_rb.mpr ⟨hx, by rw [bit_xor, bx, decide_eq_false hxk]; rfl⟩
          have h1 := h x hx2
          rw [ar_self] at h1
          have h2 := ar_nn (q := q) (j := k) (x := x) hq
          have h3 : ar q k x = ar q k k := by rw [ar_self]; omega
          exact hxk (ar_inj hx hk h3).symm
      · rintro (⟨_, h | h⟩ | ⟨h, _⟩)
        · subst h
          refine ⟨mem_rb.mpr ⟨hk, bj⟩, fun x hx => ?_⟩
          have := (mem_rb.mp hx).2
          rw [bit_xor, Nat.zero_testBit] at this
          have hx : k = x := by simpa using this
          rw [hx]
          exact Int.le_refl _
        · cases h
        · cases h
  · rw [decide_eq_false e, Bool.xor_false] at bj
    cases b : d.testBit j with
    | false =>
      rw [b] at bj
      rw [cl_out hj bj]
      constructor
      · intro h
        rw [List.getLast?_append, List.getLast?_singleton] at h
        exact absurd (Option.some.inj h).symm e
      · rintro (⟨h, _⟩ | ⟨h, _⟩)
        · exact absurd h e
        · cases h
    | true =>
      rw [b] at bj
      rw [cl_in hj bj, sorted_last (rb_sorted q _ j)]
      constructor
      · rintro ⟨m, h⟩
        refine .inr ⟨rfl, e, fun x bx => ?_⟩
        have m2 := (mem_rb.mp m).2
        have hkx : k ≠ x := fun z => by
          rw [bit_xor, z, bx, decide_eq_true rfl] at m2
          cases m2
        have hx : x < q := lt_of_bit hd bx
        have h1 := h x (mem_rb.mpr ⟨hx, by rw [bit_xor, bx, decide_eq_false hkx]; rfl⟩)
        have h2 : ar q j x ≠ ar q j k := fun z => hkx (ar_inj hx hk z).symm
        omega
      · rintro (⟨h, _⟩ | ⟨_, _, h⟩)
        · exact absurd h e
        · have bk : d.testBit k = false := by
            cases z : d.testBit k with
            | false => rfl
            | true => exact absurd (h k z) (Int.lt_irrefl _)
          refine ⟨mem_rb.mpr ⟨hk, by rw [bit_xor, bk, decide_eq_true rfl]; rfl⟩, fun x hx => ?_⟩
          by_cases hkx : k = x
          · rw [hkx]
            exact Int.le_refl _
          · have hx2 := (mem_rb.mp hx).2
            rw [bit_xor, decide_eq_false hkx, Bool.xor_false] at hx2
            exact Int.le_of_lt (h x hx2)
theorem xor_pow_inj {h a b : Nat} (e : h ^^^ 2 ^ a = h ^^^ 2 ^ b) : a = b := by
  have : 2 ^ a = 2 ^ b := by
    have := congrArg (h ^^^ ·) e
    simpa [← Nat.xor_assoc] using this
  exact (Nat.pow_right_inj (by decide)).mp this
/-- the places behind p -/
def onw (q h j p n : Nat) : List Nat := (List.range n).map fun i => h ^^^ 2 ^ ((j + (p + i)) % q)
theorem onw_succ (q h j p n : Nat) : onw q h j p (n + 1) = onw q h j p n ++ [h ^^^ 2 ^ ((j + (p + n)) % q)] := by
  unfold onw
  rw [List.range_succ, List.map_append]
  rfl
theorem onw_len (q h j p n : Nat) : (onw q h j p n).length = n := by
  unfold onw
  rw [List.length_map, List.length_range]
theorem hears_mem {q h j d p : Nat} (hj : j < q) (hd : d < 2 ^ q) (b : d.testBit j = true) (hp : ∀ x, d.testBit x = true → ar q j x ≤ (p : Int)) (hp2 : ∃ x, d.testBit x = true ∧ ar q j x = (p : Int)) (x : Nat) :
    x ∈ (h ^^^ 2 ^ j) :: onw q h j (p + 1) (q - (p + 1)) ↔ ∃ k, k < q ∧ x = h ^^^ 2 ^ k ∧ Hr q d j k := by
  have hq : 0 < q := by omega
  constructor
  · intro hx
    rcases List.mem_cons.mp hx with rfl | hx
    · exact ⟨j, hj, rfl, (hr_iff hj hj hd).mpr (.inl ⟨rfl, .inr b⟩)⟩
    · unfold onw at hx
      obtain ⟨i, hi, rfl⟩ := List.mem_map.mp hx
      have hi := List.mem_range.mp hi
      have hk : (j + (p + 1 + i)) % q < q := Nat.mod_lt _ hq
      have ea := ar_at (q := q) (i := p + 1 + i) j (by omega)
      refine ⟨_, hk, rfl, (hr_iff hj hk hd).mpr (.inr ⟨b, fun z => ?_, fun x bx => ?_⟩)⟩
      · rw [z, ar_self] at ea
        omega
      · have := hp x bx
        rw [ea]
        omega
  · rintro ⟨k, hk, rfl, hr⟩
    rcases (hr_iff hj hk hd).mp hr with ⟨rfl, _⟩ | ⟨_, hne, hlt⟩
    · exact List.mem_cons_self
    · obtain ⟨i, hi, e⟩ := at_of j hk
      have ea := ar_at (q := q) (i := i) j hi
      rw [e] at ea
      obtain ⟨x, bx, ex⟩ := hp2
      have h1 := hlt x bx
      rw [ea, ex] at h1
      refine List.mem_cons_of_mem _ (List.mem_map.mpr ⟨i - (p + 1), List.mem_range.mpr (by omega), ?_⟩)
      have : p + 1 + (i - (p + 1)) = i := by omega
      show h ^^^ 2 ^ ((j + (p + 1 + (i - (p + 1)))) % q) = _
      rw [this, e]
theorem hears_nodup {q h j p : Nat} (hj : j < q) : ((h ^^^ 2 ^ j) :: onw q h j (p + 1) (q - (p + 1))).Nodup := by
  have hq : 0 < q := by omega
  have key : ∀ i, i < q → ∀ i', i' < q → h ^^^ 2 ^ ((j + i) % q) = h ^^^ 2 ^ ((j + i') % q) → i = i' := fun i hi i' hi' e => by
    have e1 := xor_pow_inj e
    have a1 := ar_at (q := q) (i := i) j hi
    have a2 := ar_at (q := q) (i := i') j hi'
    rw [e1, a2] at a1
    omega
  refine List.nodup_cons.mpr ⟨fun z => ?_, ?_⟩
  · unfold onw at z
    obtain ⟨i, hi, e⟩ := List.mem_map.mp z
    have hi := List.mem_range.mp hi
    have e2 : h ^^^ 2 ^ ((j + (p + 1 + i)) % q) = h ^^^ 2 ^ ((j + 0) % q) := by
      have e0 : (j + 0) % q = j := Nat.mod_eq_of_lt hj
      rw [e0]; exact e
    have := key (p + 1 + i) (by omega) 0 hq e2
    omega
  · unfold onw List.Nodup
    rw [List.pairwise_map]
    refine (List.pairwise_lt_range).imp_of_mem fun {a b} ha hb hab e => ?_
    have ha := List.mem_range.mp ha
    have hb := List.mem_range.mp hb
    have := key _ (by omega) _ (by omega) e
    omega
end Bf
namespace Bf
open PySem PySem.Spec PyProof.Rows L2 LamX NdefX
theorem wl_step {s : Nat} {ks : List Nat} {i k : Nat} (h : ks[i]? = some k) : wl s (ks.take (i + 1)) = wl s (ks.take i) ++ [wf s (ks.take i) ^^^ 2 ^ k] := by
  rw [List.take_add_one, h]
  exact wl_snoc s (ks.take i) k
theorem tabs_upd {T : List (Addr × Str)} {H : Hp} {D : Addr} {xs ys : List V} (t : Tabs T H) (h : H D = some (.lst xs)) : Tabs T (upd H D (.lst ys)) := fun y hy => by
  obtain ⟨ps, t1, t2, t3⟩ := t y hy
  refine ⟨ps, ?_, t2, fun pos cv hc => ?_⟩
  · rw [upd_ne (fun e => by rw [e, h] at t1; cases t1)]
    exact t1
  · obtain ⟨c, e1, e2⟩ := t3 pos cv hc
    refine ⟨c, e1, ?_⟩
    rw [upd_ne (fun e => by rw [e, h] at e2; unfold CodeO at e2; cases e2)]
    exact e2
theorem nv_last {l : List Nat} {z : Nat} : atI (nv (l ++ [z])) (-1) = some (.int (z : Int)) := by
  have e : nv (l ++ [z]) = nv l ++ [.int (z : Int)] := by
    unfold nv
    rw [List.map_append]
    rfl
  rw [e]
  exact atI_last _ _
theorem nv_get' {ks : List Nat} {i : Nat} {x : V} (hx : (nv ks)[i]? = some x) : ∃ n, ks[i]? = some n ∧ V.int (n : Int) = x := by
  unfold nv at hx
  rw [List.getElem?_map] at hx
  cases e : ks[i]? with
  | none => rw [e] at hx; cases hx
  | some z => rw [e] at hx; exact ⟨z, rfl, Option.some.inj hx⟩
/-! ### small things -/
theorem pot_ne {H : Hp} {p u : Addr} {m : Nat} (h : Pot H p m) (n : H u = none) : u ≠ p := fun e => by
  obtain ⟨x, y, z, hH, _⟩ := h
  rw [e, hH] at n
  cases n
/-! ### if t: x = e -/
theorem rd_ifSet {tt : TT} {te : TE} {i : Nat} {D : Ends} {σ : L2.St} {H : Hp} (b : Bool) (R : V → Hp → Prop) (h0 : ∀ Q' : Bool → Hp → Prop, Q' b H → tt σ H Q') (h1 : b = true → ∀ Q : VK, (∀ x H', R x H' → Q x H') → te σ H Q)
    (h2 : b = false → ∃ x, σ[i]? = some (some x) ∧ R x H) (h : ∀ x H', R x H' → D.nx (σ.set i (some x)) H') : tIfS tt (tAsg te (gName i)) tNext D σ H := by
  refine h0 _ ?_
  cases b with
  | true => exact iteT (h1 rfl _ fun x H' r => h x H' r)
  | false =>
    obtain ⟨x, hx, r⟩ := h2 rfl
    have e : σ.set i (some x) = σ := by
      refine List.ext_getElem? fun j => ?_
      rw [List.getElem?_set]
      split
      · rename_i ej
        subst ej
        rw [hx]
        split
        · rfl
        · rename_i hj
          exact absurd (List.getElem?_eq_some_iff.mp hx).1 hj
      · rfl
    have z := h x H r
    rw [e] at z
    exact iteF z
theorem wl_small {q s : Nat} {ks : List Nat} (hq : q ≤ 60) (hs : s < 2 ^ q) (hk : ∀ k ∈ ks, k < q) : ∀ n ∈ wl s ks, n < 2 ^ 61 := fun n hn => by
  unfold wl at hn
  obtain ⟨i, _, rfl⟩ := List.mem_map.mp hn
  have h1 : wf s (ks.take i) < 2 ^ q := wf_lt hs fun k hk2 => hk k (List.mem_of_mem_take hk2)
  exact Nat.lt_of_lt_of_le h1 (Nat.pow_le_pow_right (by decide) (by omega))
theorem atI_2 {α : Type} (xs : List α) (u v : α) : atI (xs ++ [u, v]) (-2) = some u := by
  have hl : (xs ++ [u, v]).length = xs.length + 2 := by simp
  have e : ixN (xs ++ [u, v]).length (-2) = some xs.length := by
    unfold ixN
    rw [hl, if_neg (by decide), if_pos (by omega)]
    congr 1
    omega
  unfold atI
  rw [e]
  show (xs ++ [u, v])[xs.length]? = some u
  rw [List.getElem?_append_right (Nat.le_refl _), Nat.sub_self]
  rfl
/-- the last hand but one -/
theorem wl_but0 {s h : Nat} {ks : List Nat} (hne : ks ≠ []) (e1 : wf s ks = h) : atI (nv (wl s ks)) (-2) = some (.int (h ^^^ 2 ^ (ks.getLast hne) : Nat)) := by
  have ek : ks = ks.dropLast ++ [ks.getLast hne] := (List.dropLast_concat_getLast hne).symm
  have e3 : wf s ks.dropLast ^^^ 2 ^ (ks.getLast hne) = h := by rw [← wf_snoc, ← ek]; exact e1
  have e4 : wf s ks.dropLast = h ^^^ 2 ^ (ks.getLast hne) := by rw [← e3, Nat.xor_assoc, Nat.xor_self, Nat.xor_zero]
  obtain ⟨l0, el⟩ := wl_last s ks.dropLast
  have e5 : wl s ks = l0 ++ [wf s ks.dropLast, wf s ks.dropLast ^^^ 2 ^ (ks.getLast hne)] := by
    have z : wl s ks = wl s (ks.dropLast ++ [ks.getLast hne]) := congrArg (wl s) ek
    rw [z, wl_snoc, el]
    simp
  have e6 : nv (wl s ks) = nv l0 ++ [.int (wf s ks.dropLast : Nat), .int (wf s ks.dropLast ^^^ 2 ^ (ks.getLast hne) : Nat)] := by
    rw [e5]
    unfold nv
    rw [List.map_append]
    rfl
  rw [e6, atI_2, e4]
theorem xor_back (s h : Nat) : s ^^^ (h ^^^ s) = h := by rw [Nat.xor_comm h s, ← Nat.xor_assoc, Nat.xor_self, Nat.zero_xor]
theorem wl_but {q h s j : Nat} (hj : j < q) (hh : h < 2 ^ q) (hs : s < 2 ^ q) : atI (nv (wl s (cl q (h ^^^ s) j))) (-2) = some (.int (h ^^^ 2 ^ ((cl q (h ^^^ s) j).getLast (cl_ne _ _ _)) : Nat)) :=
  wl_but0 (cl_ne _ _ _) (by rw [wf_cl hj (Nat.xor_lt_two_pow hh hs), xor_back])
/-! ### crossed of the law -/
/-- a loop over zip of two tuples, the second no longer -/
theorem for_zipS {K : PySem.W.Frag} {a b : Addr} {xs ys : List V} {g : TG} {tb : TS} {D : Ends} {σ : L2.St} {H : Hp} (hl : ys.length ≤ xs.length) (Pv : Nat → L2.St → Hp → Prop) (h0 : Pv 0 σ H) (hq : ∀ i σ H, Pv i σ H → SqT K H a xs ∧ SqT K H b ys)
    (hs : ∀ (i : Nat) (x y : V) (T : Addr) (σ : L2.St) (H : Hp), xs[i]? = some x → ys[i]? = some y → Pv i σ H → H T = none → g (.ref T) σ (upd H T (.tup [x, y])) fun σ2 H2 => tb { D with nx := Pv (i + 1), ct := Pv (i + 1), bk := D.nx } σ2 H2) (hd : ∀ σ H, Pv ys.length σ H → D.nx σ H) :
    ∃ W : Nat → Nat → L2.St → Hp → Prop, (∃ m, W 0 m σ H) ∧ ∀ i m σ H, W i m σ H →
      ((RZ.ItzT K a b).stop i H ∧ D.nx σ H) ∨ ((RZ.ItzT K a b).go i H ∧ ∃ N : L2.St → Hp → Prop, (∀ σ' H', N σ' H' → ∃ m', m' < m ∧ W (i + 1) m' σ' H') ∧ ∀ v H', (RZ.ItzT K a b).yld i H v H' → g v σ H' fun σ2 H2 => tb { D with nx := N, ct := N, bk := D.nx } σ2 H2) := by
  refine ⟨fun i m σ H => i + m = ys.length ∧ Pv i σ H, ⟨ys.length, Nat.zero_add _, h0⟩, fun i m σ H hW => ?_⟩
  obtain ⟨e, p⟩ := hW
  obtain ⟨qa, qb⟩ := hq i σ H p
  cases m with
  | zero =>
    have e2 : i = ys.length := e
    exact .inl ⟨⟨xs, ys, qa, qb, .inr (Nat.le_of_eq e2.symm)⟩, hd σ H (e2 ▸ p)⟩
  | succ m =>
    have l2 : i < ys.length := by omega
    have l1 : i < xs.length := by omega
    refine .inr ⟨⟨xs, ys, xs[i], ys[i], qa, qb, List.getElem?_eq_getElem l1, List.getElem?_eq_getElem l2⟩, Pv (i + 1), fun σ' H' p' => ⟨m, Nat.lt_succ_self m, by omega, p'⟩, fun v H' z => ?_⟩
    obtain ⟨T, x, y, rfl, nT, rfl, z1, z2⟩ := z
    exact hs i x y T σ H (z1 xs qa) (z2 ys qb) p nT
theorem one_of (kk : Nat) : ∀ n, (List.range n).filter (fun k => decide (kk = k)) = if kk < n then [kk] else []
  | 0 => rfl
  | n + 1 => by
    rw [List.range_succ, List.filter_append, one_of kk n]
    by_cases e : kk = n
    · subst e
      simp
    · by_cases l : kk < n
      · simp [e, l, Nat.lt_succ_of_lt l]
      · have : ¬ kk < n + 1 := by omega
        simp [e, l, this]
theorem pow_dec (a b : Nat) : decide (V.int ((2 ^ a : Nat) : Int) = V.int ((2 ^ b : Nat) : Int)) = decide (a = b) := by
  by_cases e : a = b
  · subst e
    simp
  · have h : ¬ V.int ((2 ^ a : Nat) : Int) = V.int ((2 ^ b : Nat) : Int) := fun z => e ((Nat.pow_right_inj (by decide)).mp (Int.ofNat.inj (V.int.inj z)))
    rw [decide_eq_false e, decide_eq_false h]
end Bf
namespace Bf
open PySem PySem.Spec PyProof.Rows L2
/-! ### once round -/
theorem sorted_head {α : Type} {key : α → Int} {k : α} : ∀ {l : List α}, l.Pairwise (fun a b => key a < key b) → k ∈ l → (∀ x ∈ l, key k ≤ key x) → l.head? = some k
  | [], _, h, _ => absurd h List.not_mem_nil
  | a :: l, hp, hm, hk => by
    obtain ⟨h1, _⟩ := List.pairwise_cons.mp hp
    rcases List.mem_cons.mp hm with rfl | hm
    · rfl
    · have := h1 k hm
      have := hk a List.mem_cons_self
      omega
theorem ar_rel {q st k x : Nat} (c : Int) : ((x : Int) - ((k : Int) + c)) % (q : Int) = (ar q st x - ar q st k - c) % (q : Int) := by
  unfold ar
  rw [Int.emod_def ((x : Int) - st) q, Int.emod_def ((k : Int) - st) q]
  generalize ((x : Int) - st) / q = u
  generalize ((k : Int) - st) / q = v
  have e : (x : Int) - st - q * u - ((k : Int) - st - q * v) - c = ((x : Int) - (k + c)) + q * (v - u) := by
    rw [Int.mul_sub]
    omega
  rw [e, Int.add_mul_emod_self_left]
theorem ar_next {q st k x : Nat} (hq : 0 < q) : ar q (k + 1) x = if ar q st k < ar q st x then ar q st x - ar q st k - 1 else ar q st x - ar q st k - 1 + q := by
  have h := ar_rel (q := q) (st := st) (k := k) (x := x) 1
  have e : ar q (k + 1) x = (ar q st x - ar q st k - 1) % (q : Int) := by
    rw [← h]
    unfold ar
    rw [Int.natCast_add]
    rfl
  have a0 := ar_nn (q := q) (j := st) (x := x) hq
  have a1 := ar_lt (q := q) (j := st) (x := x) hq
  have b0 := ar_nn (q := q) (j := st) (x := k) hq
  have b1 := ar_lt (q := q) (j := st) (x := k) hq
  rw [e]
  split
  · exact Int.emod_eq_of_lt (by omega) (by omega)
  · have : (ar q st x - ar q st k - 1) % (q : Int) = (ar q st x - ar q st k - 1 + q) % (q : Int) := by rw [Int.add_emod_right]
    rw [this]
    exact Int.emod_eq_of_lt (by omega) (by omega)
theorem ar_from {q st k x : Nat} (hq : 0 < q) : ar q k x = if ar q st k ≤ ar q st x then ar q st x - ar q st k else ar q st x - ar q st k + q := by
  have h := ar_rel (q := q) (st := st) (k := k) (x := x) 0
  have e : ar q k x = (ar q st x - ar q st k) % (q : Int) := by
    rw [Int.add_zero, Int.sub_zero] at h
    exact h
  have a0 := ar_nn (q := q) (j := st) (x := x) hq
  have a1 := ar_lt (q := q) (j := st) (x := x) hq
  have b0 := ar_nn (q := q) (j := st) (x := k) hq
  have b1 := ar_lt (q := q) (j := st) (x := k) hq
  rw [e]
  split
  · exact Int.emod_eq_of_lt (by omega) (by omega)
  · have : (ar q st x - ar q st k) % (q : Int) = (ar q st x - ar q st k + q) % (q : Int) := by rw [Int.add_emod_right]
    rw [this]
    exact Int.emod_eq_of_lt (by omega) (by omega)
/-- the next one in the round order -/
theorem next_in {q h st i b c : Nat} (hq : 0 < q) (h1 : (rb q h st)[i]? = some b) (h2 : (rb q h st)[i + 1]? = some c) : (rb q h (b + 1)).head? = some c := by
  have hs := rb_sorted q h st
  have l1 := (List.getElem?_eq_some_iff.mp h1)
  have l2 := (List.getElem?_eq_some_iff.mp h2)
  obtain ⟨g1, e1⟩ := l1
  obtain ⟨g2, e2⟩ := l2
  have hbc : ar q st b < ar q st c := by
    have := List.pairwise_iff_getElem.mp hs i (i + 1) g1 g2 (Nat.lt_succ_self i)
    rw [e1, e2] at this
    exact this
  have mc : c ∈ rb q h st := e2 ▸ List.getElem_mem g2
  refine sorted_head (rb_sorted q h (b + 1)) (mem_rb.mpr (mem_rb.mp mc)) fun x hx => ?_
  have mx : x ∈ rb q h st := mem_rb.mpr (mem_rb.mp hx)
  obtain ⟨m, hm, ex⟩ := List.getElem_of_mem mx
  rw [ar_next (st := st) hq, ar_next (st := st) hq, if_pos hbc]
  have x1 := ar_lt (q := q) (j := st) (x := c) hq
  have x0 := ar_nn (q := q) (j := st) (x := x) hq
  have b1 := ar_nn (q := q) (j := st) (x := b) hq
  split
  · rename_i hlt
    have hmi : i < m := by
      refine Nat.lt_of_not_le fun l => ?_
      rcases Nat.lt_or_eq_of_le l with l | l
      · have := List.pairwise_iff_getElem.mp hs m i hm g1 l
        rw [e1, ex] at this
        omega
      · subst l
        rw [e1] at ex
        subst ex
        omega
    rcases Nat.lt_or_eq_of_le (Nat.succ_le_of_lt hmi) with l | l
    · have := List.pairwise_iff_getElem.mp hs (i + 1) m g2 hm l
      rw [e2, ex] at this
      omega
    · have : c = x := by
        rw [← e2, ← ex]
        congr 1
      rw [this]
      omega
  · omega
theorem next_end {q h st b a : Nat} (hq : 0 < q) (h1 : (rb q h st).getLast? = some b) (h2 : (rb q h st).head? = some a) : (rb q h (b + 1)).head? = some a := by
  have hs := rb_sorted q h st
  obtain ⟨mb, hb⟩ := (sorted_last hs).mp h1
  have ma : a ∈ rb q h st := List.mem_of_head? h2
  have ha : ∀ x ∈ rb q h st, ar q st a ≤ ar q st x := by
    cases e : rb q h st with
    | nil => intro x hx; exact absurd hx List.not_mem_nil
    | cons z l =>
      rw [e] at h2 hs
      have : z = a := Option.some.inj h2
      subst this
      intro x hx
      rcases List.mem_cons.mp hx with rfl | hx
      · exact Int.le_refl _
      · exact Int.le_of_lt ((List.pairwise_cons.mp hs).1 x hx)
  refine sorted_head (rb_sorted q h (b + 1)) (mem_rb.mpr (mem_rb.mp ma)) fun x hx => ?_
  have mx : x ∈ rb q h st := mem_rb.mpr (mem_rb.mp hx)
  have c1 := hb x mx
  have c2 := hb a ma
  have c3 := ha x mx
  rw [ar_next (st := st) hq, ar_next (st := st) hq]
  rw [if_neg (by omega), if_neg (by omega)]
  omega
def stp (q h t : Nat) : Int := if ar q h t = 0 then (q : Int) else ar q h t
theorem steps_sum {q st : Nat} (hq : 0 < q) : ∀ (b : Nat) (l : List Nat), b < q → (∀ x ∈ l, x < q) → st < q → (b :: l).Pairwise (fun a b => ar q st a < ar q st b) → (List.zipWith (stp q) (b :: l) (l ++ [st])).sum = q - ar q st b
  | b, [], hb, _, hst, _ => by
    show stp q b st + 0 = _
    have e := ar_from (q := q) (st := st) (k := b) (x := st) hq
    rw [ar_self] at e
    have b0 := ar_nn (q := q) (j := st) (x := b) hq
    have b1 := ar_lt (q := q) (j := st) (x := b) hq
    unfold stp
    rw [e]
    split <;> split <;> omega
  | b, c :: l, hb, hl, hst, hp => by
    obtain ⟨h1, h2⟩ := List.pairwise_cons.mp hp
    have ih := steps_sum (st := st) hq c l (hl c List.mem_cons_self) (fun x hx => hl x (List.mem_cons_of_mem _ hx)) hst h2
    show stp q b c + (List.zipWith (stp q) (c :: l) (l ++ [st])).sum = _
    rw [ih]
    have hbc := h1 c List.mem_cons_self
    have e := ar_from (q := q) (st := st) (k := b) (x := c) hq
    rw [if_pos (by omega)] at e
    unfold stp
    rw [e, if_neg (by omega)]
    omega
theorem arcs_two {q a b : Nat} (hq : 0 < q) : ar q a b + ar q b a = 0 ∨ ar q a b + ar q b a = q := by
  have e := ar_from (q := q) (st := a) (k := b) (x := a) hq
  rw [ar_self] at e
  have b0 := ar_nn (q := q) (j := a) (x := b) hq
  have b1 := ar_lt (q := q) (j := a) (x := b) hq
  rw [e]
  split <;> omega
end Bf
namespace Bf
open PySem PySem.Spec PyProof.Rows L2
/-! ### each neighbour in one tree -/
theorem cl_last_in {q d j k : Nat} (hj : j < q) (b : d.testBit j = true) : (cl q d j).getLast? = some k ↔ (k < q ∧ d.testBit k = true) ∧ ∀ x, x < q → d.testBit x = true → ar q j x ≤ ar q j k := by
  rw [cl_in hj b, sorted_last (rb_sorted q d j), mem_rb]
  constructor
  · exact fun h => ⟨h.1, fun x h1 h2 => h.2 x (mem_rb.mpr ⟨h1, h2⟩)⟩
  · exact fun h => ⟨h.1, fun x hx => h.2 x (mem_rb.mp hx).1 (mem_rb.mp hx).2⟩
theorem cl_last_out {q d j : Nat} (hj : j < q) (b : d.testBit j = false) : (cl q d j).getLast? = some j := by
  rw [cl_out hj b, List.getLast?_append, List.getLast?_singleton]
  rfl
theorem tree_one {q d j1 j2 k : Nat} (h1 : j1 < q) (h2 : j2 < q) (e1 : (cl q d j1).getLast? = some k) (e2 : (cl q d j2).getLast? = some k) : j1 = j2 := by
  have hq : 0 < q := by omega
  cases b1 : d.testBit j1 with
  | false =>
    rw [cl_last_out h1 b1] at e1
    have k1 : j1 = k := Option.some.inj e1
    cases b2 : d.testBit j2 with
    | false =>
      rw [cl_last_out h2 b2] at e2
      have k2 : j2 = k := Option.some.inj e2
      omega
    | true =>
      have := ((cl_last_in h2 b2).mp e2).1.2
      rw [← k1, b1] at this
      cases this
  | true =>
    obtain ⟨⟨hk, bk⟩, m1⟩ := (cl_last_in h1 b1).mp e1
    cases b2 : d.testBit j2 with
    | false =>
      rw [cl_last_out h2 b2] at e2
      have k2 : j2 = k := Option.some.inj e2
      rw [← k2, b2] at bk
      cases bk
    | true =>
      obtain ⟨_, m2⟩ := (cl_last_in h2 b2).mp e2
      refine Classical.byContradiction fun hne => ?_
      have x1 := m1 j2 h2 b2
      have x2 := m2 j1 h1 b1
      have f1 := ar_from (q := q) (st := j1) (k := j2) (x := k) hq
      have f2 := ar_from (q := q) (st := j1) (k := j2) (x := j1) hq
      rw [ar_self] at f2
      have c0 := ar_nn (q := q) (j := j1) (x := j2) hq
      have a1 := ar_lt (q := q) (j := j1) (x := k) hq
      have c1 : ar q j1 j2 ≠ 0 := fun z => hne (ar_inj (q := q) (j := j1) h1 h2 (by rw [ar_self, z]))
      rw [if_pos x1] at f1
      rw [if_neg (by omega)] at f2
      omega
theorem tree_some {q d k : Nat} (hd : d < 2 ^ q) (hk : k < q) : ∃ j, j < q ∧ (cl q d j).getLast? = some k := by
  have hq : 0 < q := by omega
  cases b : d.testBit k with
  | false => exact ⟨k, hk, cl_last_out hk b⟩
  | true =>
    cases e : rb q d (k + 1) with
    | nil =>
      have : k ∈ rb q d (k + 1) := mem_rb.mpr ⟨hk, b⟩
      rw [e] at this
      exact absurd this List.not_mem_nil
    | cons j l =>
      have mj : j ∈ rb q d (k + 1) := by rw [e]; exact List.mem_cons_self
      obtain ⟨hj, bj⟩ := mem_rb.mp mj
      have hs := rb_sorted q d (k + 1)
      have least : ∀ x, x < q → d.testBit x = true → ar q (k + 1) j ≤ ar q (k + 1) x := fun x hx bx => by
        have mx : x ∈ rb q d (k + 1) := mem_rb.mpr ⟨hx, bx⟩
        rw [e] at mx hs
        rcases List.mem_cons.mp mx with rfl | mx
        · exact Int.le_refl _
        · exact Int.le_of_lt ((List.pairwise_cons.mp hs).1 x mx)
      refine ⟨j, hj, (cl_last_in hj bj).mpr ⟨⟨hk, b⟩, fun x hx bx => ?_⟩⟩
      have y1 := ar_from (q := q) (st := k + 1) (k := j) (x := x) hq
      have y2 := ar_from (q := q) (st := k + 1) (k := j) (x := k) hq
      rw [if_pos (least x hx bx)] at y1
      rw [if_pos (least k hk b)] at y2
      rw [y1, y2]
      have top : ar q (k + 1) k = q - 1 := by
        have := ar_next (q := q) (st := k) (k := k) (x := k) hq
        rw [if_neg (by omega), ar_self] at this
        omega
      have := ar_lt (q := q) (j := k + 1) (x := x) hq
      omega
end Bf
namespace Bf
open PySem PySem.Spec PyProof.Rows L2 LamX NdefX
/-! ### the tree whose turn it is -/
def trF (q d k : Nat) : Nat := if d.testBit k = true then ((rb q d (k + 1)).head?).getD 0 else k
def ltF (q d k : Nat) : Nat := if d.testBit k = true then (ar q (trF q d k) k).toNat else q
theorem trF_head {q d k : Nat} (hk : k < q) (b : d.testBit k = true) : (rb q d (k + 1)).head? = some (trF q d k) := by
  unfold trF
  rw [if_pos b]
  cases e : rb q d (k + 1) with
  | nil =>
    have : k ∈ rb q d (k + 1) := mem_rb.mpr ⟨hk, b⟩
    rw [e] at this
    exact absurd this List.not_mem_nil
  | cons j l => rfl
theorem trF_out {q d k : Nat} (b : d.testBit k = false) : trF q d k = k := by
  unfold trF
  rw [b]
  rfl
theorem trF_in {q d k : Nat} (hk : k < q) (b : d.testBit k = true) : trF q d k < q ∧ d.testBit (trF q d k) = true := by
  have e := trF_head hk b
  have : trF q d k ∈ rb q d (k + 1) := List.mem_of_mem_head? (by rw [e]; rfl)
  exact mem_rb.mp this
theorem trF_lt {q d k : Nat} (hk : k < q) : trF q d k < q := by
  cases b : d.testBit k with
  | false => rw [trF_out b]; exact hk
  | true => exact (trF_in hk b).1
theorem trF_bit {q d k : Nat} (hk : k < q) : d.testBit (trF q d k) = d.testBit k := by
  cases b : d.testBit k with
  | false => rw [trF_out b]; exact b
  | true => exact (trF_in hk b).2
theorem trF_last {q d k : Nat} (hk : k < q) : (cl q d (trF q d k)).getLast? = some k := by
  have hq : 0 < q := by omega
  cases b : d.testBit k with
  | false => rw [trF_out b]; exact cl_last_out hk b
  | true =>
    obtain ⟨hj, bj⟩ := trF_in hk b
    have eh := trF_head hk b
    generalize trF q d k = j at hj bj eh
    have hs := rb_sorted q d (k + 1)
    have least : ∀ x, x < q → d.testBit x = true → ar q (k + 1) j ≤ ar q (k + 1) x := fun x hx bx => by
      have mx : x ∈ rb q d (k + 1) := mem_rb.mpr ⟨hx, bx⟩
      cases e : rb q d (k + 1) with
      | nil => rw [e] at mx; exact absurd mx List.not_mem_nil
      | cons z l =>
        rw [e] at mx hs eh
        have ez : z = j := Option.some.inj eh
        subst ez
        rcases List.mem_cons.mp mx with rfl | mx
        · exact Int.le_refl _
        · exact Int.le_of_lt ((List.pairwise_cons.mp hs).1 x mx)
    refine (cl_last_in hj bj).mpr ⟨⟨hk, b⟩, fun x hx bx => ?_⟩
    have y1 := ar_from (q := q) (st := k + 1) (k := j) (x := x) hq
    have y2 := ar_from (q := q) (st := k + 1) (k := j) (x := k) hq
    rw [if_pos (least x hx bx)] at y1
    rw [if_pos (least k hk b)] at y2
    rw [y1, y2]
    have top : ar q (k + 1) k = q - 1 := by
      have := ar_next (q := q) (st := k) (k := k) (x := k) hq
      rw [if_neg (by omega), ar_self] at this
      omega
    have := ar_lt (q := q) (j := k + 1) (x := x) hq
    omega
theorem trF_iff {q d j k : Nat} (hj : j < q) (hk : k < q) : (cl q d j).getLast? = some k ↔ j = trF q d k :=
  ⟨fun e => tree_one hj (trF_lt hk) e (trF_last hk), fun e => by rw [e]; exact trF_last hk⟩
theorem ltF_in {q d k : Nat} (hq : 0 < q) (b : d.testBit k = true) : (ltF q d k : Int) = ar q (trF q d k) k := by
  unfold ltF
  rw [if_pos b]
  exact Int.toNat_of_nonneg (ar_nn hq)
theorem ltF_out {q d k : Nat} (b : d.testBit k = false) : ltF q d k = q := by
  unfold ltF
  rw [b]
  rfl
theorem ltF_le {q d k : Nat} (hq : 0 < q) : ltF q d k ≤ q := by
  cases b : d.testBit k with
  | false => rw [ltF_out b]; exact Nat.le_refl _
  | true =>
    have h1 := ltF_in hq b
    have h2 := ar_lt (q := q) (j := trF q d k) (x := k) hq
    omega
/-! ### a hand's bits, 0 or 1 each -/
def mk (q h : Nat) : List Nat := (List.range q).map fun k => (h.testBit k).toNat
theorem mk_len (q h : Nat) : (mk q h).length = q := by
  unfold mk
  rw [List.length_map, List.length_range]
theorem mk_get {q h k : Nat} (hk : k < q) : (mk q h)[k]? = some (h.testBit k).toNat := by
  unfold mk
  rw [List.getElem?_map, List.getElem?_range hk]
  rfl
theorem mk_succ (q h : Nat) : mk (q + 1) h = mk q h ++ [(h.testBit q).toNat] := by
  unfold mk
  rw [List.range_succ, List.map_append]
  rfl
theorem bit_nat (h k : Nat) : (h.testBit k).toNat = h / 2 ^ k % 2 := by
  rw [Nat.testBit_eq_decide_div_mod_eq]
  by_cases e : h / 2 ^ k % 2 = 1
  · rw [decide_eq_true e, e]; rfl
  · rw [decide_eq_false e]
    show 0 = _
    omega
theorem mk_of {L : List Nat} {q : Nat} (hl : L.length = q) (hb : ∀ x ∈ L, x < 2) : ∃ h, h < 2 ^ q ∧ L = mk q h := by
  refine ⟨fb ((List.range q).filter fun k => decide (L[k]? = some 1)), fb_lt fun k hk => List.mem_range.mp (List.mem_filter.mp hk).1, ?_⟩
  refine List.ext_getElem? fun i => ?_
  by_cases hi : i < q
  · rw [mk_get hi]
    have hi2 : i < L.length := by omega
    have hx := hb _ (List.getElem_mem hi2)
    rw [List.getElem?_eq_getElem hi2]
    congr 1
    unfold fb
    rw [fold_bit, Nat.zero_testBit, Bool.false_or]
    by_cases e : L[i] = 1
    · rw [decide_eq_true (List.mem_filter.mpr ⟨List.mem_range.mpr hi, decide_eq_true (by rw [List.getElem?_eq_getElem hi2, e])⟩), e]
      rfl
    · rw [decide_eq_false fun z => ?_]
      · show L[i] = 0
        omega
      · have z2 := of_decide_eq_true (List.mem_filter.mp z).2
        rw [List.getElem?_eq_getElem hi2] at z2
        exact e (Option.some.inj z2)
  · rw [List.getElem?_eq_none (by omega), List.getElem?_eq_none (by rw [mk_len]; omega)]
theorem mk_small {q h x : Nat} (hx : x ∈ mk q h) : x < 2 := by
  unfold mk at hx
  obtain ⟨k, _, rfl⟩ := List.mem_map.mp hx
  cases h.testBit k <;> decide
theorem xor_bit2 (a b k : Nat) : ((a.testBit k).toNat + (b.testBit k).toNat) % 2 = ((a ^^^ b).testBit k).toNat := by
  rw [Nat.testBit_xor]
  cases a.testBit k <;> cases b.testBit k <;> rfl
/-- one bit turned -/
theorem mk_cross {q h k : Nat} (hk : k < q) : (mk q h).take k ++ [1 - (h.testBit k).toNat] ++ (mk q h).drop (k + 1) = mk q (h ^^^ 2 ^ k) := by
  refine List.ext_getElem? fun i => ?_
  have l1 : ((mk q h).take k).length = k := by rw [List.length_take, mk_len]; omega
  by_cases hi : i < q
  · rw [mk_get hi, bit_xor]
    rcases Nat.lt_trichotomy i k with c | c | c
    · rw [List.append_assoc, List.getElem?_append_left (by omega), List.getElem?_take_of_lt c, mk_get hi]
      have : ¬ k = i := by omega
      simp [this]
    · subst c
      rw [List.append_assoc, List.getElem?_append_right (by omega), l1, Nat.sub_self]
      show some (1 - (h.testBit i).toNat) = _
      cases h.testBit i <;> simp
    · rw [List.getElem?_append_right (by rw [List.length_append, l1]; show k + 1 ≤ i; omega), List.length_append, l1, List.getElem?_drop]
      have e : k + 1 + (i - (k + [1 - (h.testBit k).toNat].length)) = i := by show k + 1 + (i - (k + 1)) = i; omega
      rw [e, mk_get hi]
      have : ¬ k = i := by omega
      simp [this]
  · have z : ((mk q h).take k ++ [1 - (h.testBit k).toNat] ++ (mk q h).drop (k + 1)).length ≤ i := by
      rw [List.length_append, List.length_append, l1, List.length_drop, mk_len]
      show k + 1 + (q - (k + 1)) ≤ i
      omega
    have z2 : (mk q (h ^^^ 2 ^ k)).length ≤ i := by
      rw [mk_len]
      omega
    rw [List.getElem?_eq_none z, List.getElem?_eq_none z2]
theorem half_step (h n : Nat) : h / 2 ^ n = 2 * (h / 2 ^ (n + 1)) + h / 2 ^ n % 2 := by
  rw [Nat.pow_succ, ← Nat.div_div_eq_div_mul]
  have := Nat.div_add_mod (h / 2 ^ n) 2
  omega
/-! ### rules -/
section
variable {X : Cx}
theorem call_reprA (gd : X.A.guards = some []) (hu : X.A.units + 64 < cLine) : CallR X (.builtin "repr") (fun xs H Q => (xs = [.non] ∧ Q (.str "None") H) ∨ ∃ a d, xs = [.ref a] ∧ Dp X.K H (.ref a) d ∧ d.showable = true ∧ d.hasDict = false ∧ d.depth < 60 ∧ d.shown.length ≤ sizeLine ∧ Q (.str d.shown) H) := by
  intro pins s σ H xs us Q I r h
  rcases h with ⟨rfl, q⟩ | h
  · obtain ⟨u, rfl, ru⟩ := vals1 r
    cases ru
    exact P.repr_of_none ⟨.str "None", H, I.tok _, ⟨_, rfl⟩, q⟩
  · exact call_reprD gd hu pins s σ H xs us Q I r h
theorem op_powW : OpR X (binaryOp .Pow) (rI (fun i j => 0 ≤ j ∧ (Builtin.Int.intBits i : Int) * j ≤ 2 ^ 27) fun i j => .int (i ^ j.toNat)) := opI fun _ _ _ _ _ _ _ hc q => pow_int hc.1 hc.2 q
end
end Bf
namespace Bf
open PySem PySem.Spec PyProof.Rows L2 LamX NdefX
/-! ### more rules -/
theorem yes {σ : L2.St} {H : Hp} {A B : Hp → Prop} (h : A H) : tYes σ H (fun b H3 => if b = true then A H3 else B H3) := by
  show if true = true then A H else B H
  exact (if_pos rfl).mpr h
theorem op_fdivNN {X : Cx} : OpR X (binaryOp .FloorDiv) (fun x y H Q => ∃ n m : Nat, x = .int (n : Int) ∧ y = .int (m : Int) ∧ 0 < m ∧ m < 1073741824 ∧ Q (.int ((n / m : Nat) : Int)) H) := by
  intro pins s σ H x y v u Q I rx ry h
  obtain ⟨n, m, rfl, rfl, hm, hm2, q⟩ := h
  refine op_fdiv pins s σ H _ _ v u Q I rx ry ⟨(n : Int), (m : Int), rfl, rfl, ⟨by omega, by omega⟩, ?_⟩
  rw [Int.natCast_ediv] at q
  exact q
theorem op_mulNN {X : Cx} : OpR X (binaryOp .Mult) (fun x y H Q => ∃ n m : Nat, x = .int (n : Int) ∧ y = .int (m : Int) ∧ n < 2 ^ 63 ∧ Q (.int ((n * m : Nat) : Int)) H) := by
  intro pins s σ H x y v u Q I rx ry h
  obtain ⟨n, m, rfl, rfl, hm, q⟩ := h
  refine op_mul pins s σ H _ _ v u Q I rx ry ⟨(n : Int), (m : Int), rfl, rfl, .inl ⟨by omega, by omega⟩, ?_⟩
  rw [Int.natCast_mul] at q
  exact q
/-! ### source=0 behind a star, by any names -/
theorem kbS3 {x1 x2 x3 : Str} {K : PySem.W.Frag} {x : Str} {st : Stmt} {f : Addr} {fd : FuncData} (F : FunS K x st f fd) (h : ∀ (kV doc pm : Value) (an : Option Addr) (cdv ct a b c d : Value), bindArgs (PySem.W.fnOf x x (defArgs st) (defBody st) (defScope st) .none kV doc pm an cdv ct) ⟨[a, b, c], [(("source" : Str), d)]⟩ = pure ([(x1, a), (x2, b), (x3, c), ("source", d)] : List (Str × Value))) :
    KBinds K fd [x1, x2, x3, "source"] ["source"] g3 g3 := by
  obtain ⟨oc, od, dV, kV, doc, pm, an, cdv, ct, osl, rfl, lk, hcd, hD, hK⟩ := F.ex
  rcases hD with ⟨_, rfl⟩ | ⟨z, _⟩
  · refine ⟨fun s us ws _ hl => ?_, fun r1 r2 => g3_rel r1 r2⟩
    obtain ⟨a, b, c, d, rfl, rfl⟩ := g3_len hl
    exact .of_eq (h kV doc pm an cdv ct a b c d)
  · exact absurd rfl z
def g4 {α : Type} (us ws : List α) : List α := match us, ws with
  | [a, b, c, d], [e] => [a, b, c, d, e]
  | _, _ => []
theorem g4_rel {vs zs : List V} {us ws : List Value} (r1 : Vals vs us) (r2 : Vals zs ws) : Vals (g4 vs zs) (g4 us ws) := by
  match r1, r2 with
  | .nil, _ => exact .nil
  | .cons _ .nil, _ => exact .nil
  | .cons _ (.cons _ .nil), _ => exact .nil
  | .cons _ (.cons _ (.cons _ .nil)), _ => exact .nil
  | .cons _ (.cons _ (.cons _ (.cons _ .nil))), .nil => exact .nil
  | .cons a (.cons b (.cons c (.cons d .nil))), .cons e .nil => exact .cons a (.cons b (.cons c (.cons d (.cons e .nil))))
  | .cons _ (.cons _ (.cons _ (.cons _ .nil))), .cons _ (.cons _ _) => exact .nil
  | .cons _ (.cons _ (.cons _ (.cons _ (.cons _ _)))), _ => exact .nil
theorem g4_len {us ws : List Value} (h : (g4 us ws).length = 5) : ∃ a b c d e, us = [a, b, c, d] ∧ ws = [e] := by
  match us, ws, h with
  | [a, b, c, d], [e], _ => exact ⟨a, b, c, d, e, rfl, rfl⟩
  | [], _, h => cases h
  | [_], _, h => cases h
  | [_, _], _, h => cases h
  | [_, _, _], _, h => cases h
  | [_, _, _, _], [], h => cases h
  | [_, _, _, _], _ :: _ :: _, h => cases h
  | _ :: _ :: _ :: _ :: _ :: _, _, h => cases h
theorem kbS4 {x1 x2 x3 x4 : Str} {K : PySem.W.Frag} {x : Str} {st : Stmt} {f : Addr} {fd : FuncData} (F : FunS K x st f fd) (h : ∀ (kV doc pm : Value) (an : Option Addr) (cdv ct a b c d e : Value), bindArgs (PySem.W.fnOf x x (defArgs st) (defBody st) (defScope st) .none kV doc pm an cdv ct) ⟨[a, b, c, d], [(("source" : Str), e)]⟩ = pure ([(x1, a), (x2, b), (x3, c), (x4, d), ("source", e)] : List (Str × Value))) :
    KBinds K fd [x1, x2, x3, x4, "source"] ["source"] g4 g4 := by
  obtain ⟨oc, od, dV, kV, doc, pm, an, cdv, ct, osl, rfl, lk, hcd, hD, hK⟩ := F.ex
  rcases hD with ⟨_, rfl⟩ | ⟨z, _⟩
  · refine ⟨fun s us ws _ hl => ?_, fun r1 r2 => g4_rel r1 r2⟩
    obtain ⟨a, b, c, d, e, rfl, rfl⟩ := g4_len hl
    exact .of_eq (h kV doc pm an cdv ct a b c d e)
  · exact absurd rfl z
end Bf
namespace Bf
open PySem PySem.Spec PyProof.Rows L2 LamX NdefX
/-! ### since when -/
def farF (q d j : Nat) : Nat := (ar q j (((rb q d j).getLast?).getD 0)).toNat
def dyF (q d j : Nat) : Nat := if d.testBit j = true then farF q d j else q
def snF (q m d i : Nat) : Nat := if i + 1 = m then i + farF q d (i % q) else i + dyF q d (i % q)
theorem far_spec {q d j : Nat} (hq : 0 < q) (hd : d < 2 ^ q) (h0 : d ≠ 0) : ∃ L, (rb q d j).getLast? = some L ∧ ar q j L = (farF q d j : Int) ∧ d.testBit L = true ∧ L < q ∧ ∀ x, d.testBit x = true → ar q j x ≤ (farF q d j : Int) := by
  have hne : rb q d j ≠ [] := fun e => by
    obtain ⟨i, hi⟩ := Nat.exists_testBit_of_ne_zero h0
    have : i ∈ rb q d j := mem_rb.mpr ⟨lt_of_bit hd hi, hi⟩
    rw [e] at this
    exact absurd this List.not_mem_nil
  have e1 := List.getLast?_eq_getLast hne
  have e2 : ar q j ((rb q d j).getLast hne) = (farF q d j : Int) := by
    unfold farF
    rw [e1]
    exact (Int.toNat_of_nonneg (ar_nn hq)).symm
  obtain ⟨m1, m2⟩ := (sorted_last (rb_sorted q d j)).mp e1
  refine ⟨_, e1, e2, (mem_rb.mp m1).2, (mem_rb.mp m1).1, fun x hx => ?_⟩
  rw [← e2]
  exact m2 x (mem_rb.mpr ⟨lt_of_bit hd hx, hx⟩)
theorem far_lt {q d j : Nat} (hq : 0 < q) : farF q d j < q := by
  have h1 := ar_lt (q := q) (j := j) (x := ((rb q d j).getLast?).getD 0) hq
  have h2 := ar_nn (q := q) (j := j) (x := ((rb q d j).getLast?).getD 0) hq
  unfold farF
  omega
theorem dy_le {q d j : Nat} (hq : 0 < q) : dyF q d j ≤ q := by
  unfold dyF
  split
  · exact Nat.le_of_lt (far_lt hq)
  · exact Nat.le_refl _
theorem sn_le {q m d i : Nat} (hq : 0 < q) : snF q m d i ≤ i + q := by
  unfold snF
  split
  · have := far_lt (q := q) (d := d) (j := i % q) hq
    omega
  · have := dy_le (q := q) (d := d) (j := i % q) hq
    omega
theorem far_uniq {q d j : Nat} {v : Int} (hq : 0 < q) (hd : d < 2 ^ q) (h0 : d ≠ 0) (h1 : ∃ x, d.testBit x = true ∧ v = ar q j x) (h2 : ∀ x, d.testBit x = true → ar q j x ≤ v) : v = (farF q d j : Int) := by
  obtain ⟨L, _, e2, b, _, top⟩ := far_spec (j := j) hq hd h0
  obtain ⟨x, bx, rfl⟩ := h1
  have := top x bx
  have := h2 L b
  omega
theorem ar_modl {q j x : Nat} : ar q (j % q) x = ar q j x := by
  unfold ar
  rw [Int.natCast_emod]
  rw [Int.sub_emod, Int.emod_emod_of_dvd _ (Int.dvd_refl _), ← Int.sub_emod]
theorem far_back {q i L : Nat} (hq : 0 < q) (hL : L < q) : (((i + q - 1 : Nat) : Int) - ar q L ((i + q - 1) % q)) = (i : Int) + ar q (i % q) L := by
  have h1 := ar_next (q := q) (st := L) (k := (i + q - 1) % q) (x := L) hq
  rw [ar_self] at h1
  have nn := ar_nn (q := q) (j := L) (x := (i + q - 1) % q) hq
  rw [if_neg (by omega)] at h1
  have e : ((i + q - 1) % q + 1) % q = i % q := by
    rw [Nat.mod_add_mod, show i + q - 1 + 1 = i + q by omega, Nat.add_mod_right]
  have h2 : ar q ((i + q - 1) % q + 1) L = ar q (i % q) L := by rw [← ar_modl, e]
  rw [← h2, h1]
  omega
theorem mk_set {q h k : Nat} (hk : k < q) : (mk q h).set k (1 - (h.testBit k).toNat) = mk q (h ^^^ 2 ^ k) := by
  rw [← mk_cross hk, List.set_eq_take_append_cons_drop, if_pos (by rw [mk_len]; exact hk), List.append_assoc]
  rfl
theorem nv_set (ks : List Nat) (k v : Nat) : (nv ks).set k (.int (v : Int)) = nv (ks.set k v) := by
  unfold nv
  rw [List.map_set]
theorem no_bits {q d : Nat} (hd : d < 2 ^ q) (h : ∀ k, k < q → d.testBit k = false) : d = 0 := by
  refine Nat.eq_of_testBit_eq fun i => ?_
  rw [Nat.zero_testBit]
  cases e : d.testBit i with
  | false => rfl
  | true =>
    have := h i (lt_of_bit hd e)
    rw [e] at this
    cases this
theorem in_mk {q d : Nat} (hd : d < 2 ^ q) : inV (.int 1) (nv (mk q d)) = decide (d ≠ 0) := by
  by_cases h0 : d = 0
  · subst h0
    have : inV (.int 1) (nv (mk q 0)) = false := by
      unfold inV nv mk
      rw [List.any_map, List.any_map, List.any_eq_false]
      intro x _
      show ¬ eqV (.int (((Nat.testBit 0 x).toNat : Nat) : Int)) (.int 1) = true
      rw [Nat.zero_testBit]
      decide
    rw [this]
    rfl
  · have : inV (.int 1) (nv (mk q d)) = true := by
      obtain ⟨i, hi⟩ := Nat.exists_testBit_of_ne_zero h0
      unfold inV nv mk
      rw [List.any_map, List.any_map, List.any_eq_true]
      refine ⟨i, List.mem_range.mpr (lt_of_bit hd hi), ?_⟩
      show eqV (.int (((Nat.testBit d i).toNat : Nat) : Int)) (.int 1) = true
      rw [hi]
      rfl
    rw [this]
    exact (decide_eq_true h0).symm
theorem flat_nv (ks : List Nat) : (nv ks).all flatV = true := by
  unfold nv
  rw [List.all_map, List.all_eq_true]
  intro x _
  rfl
end Bf
namespace Bf
open PySem PySem.Spec PyProof.Rows L2 LamX NdefX
/-! ### what is heard, and first heard -/
theorem ar_add {q i e : Nat} (he : e < q) : ar q (i % q) ((i + e) % q) = (e : Int) := by
  have h := ar_at (q := q) (i % q) he
  rw [Nat.mod_add_mod] at h
  exact h
theorem arc_to {q j k : Nat} (hj : j < q) (hk : k < q) : ((j : Int) + ar q j k) % (q : Int) = k := by
  obtain ⟨i, hi, rfl⟩ := at_of j hk
  rw [ar_at j hi]
  have : ((j : Int) + (i : Int)) % (q : Int) = ((((j + i) % q : Nat)) : Int) := by
    rw [Int.natCast_emod, Int.natCast_add]
  exact this
/-- the letter heard at a beat by a hand of this set -/
def duF (q m d t : Nat) : Option Nat := if t < ltF q d (t % q) then none else some (min (t - ltF q d (t % q)) (m - 1))
theorem tree_mod {q d t : Nat} (hq : 0 < q) (b : d.testBit (t % q) = true) (h : ¬ t < ltF q d (t % q)) : (t - ltF q d (t % q)) % q = trF q d (t % q) := by
  have hk : t % q < q := Nat.mod_lt _ hq
  have h1 := ltF_in hq b
  have hj := trF_lt (d := d) hk
  generalize trF q d (t % q) = j at *
  generalize hl : ltF q d (t % q) = l at *
  -- t ≡ j + l
  have h2 := arc_to hj hk
  rw [← h1] at h2
  have h3 : (j + l) % q = t % q := by
    have : (((j + l) % q : Nat) : Int) = ((t % q : Nat) : Int) := by rw [Int.natCast_emod, Int.natCast_add]; exact h2
    exact Int.ofNat.inj this
  obtain ⟨c, hc⟩ := Nat.exists_eq_add_of_le (Nat.le_of_not_lt h)
  subst hc
  rw [Nat.add_sub_cancel_left]
  refine turn_inj (by' := l) (Nat.mod_lt _ hq) hj ?_
  rw [Nat.mod_add_mod, h3, Nat.add_comm c l]
/-- the last bit crossed on a way of a tree of the set is the farthest -/
theorem far_last {q d k : Nat} (hq : 0 < q) (hd : d < 2 ^ q) (hk : k < q) (b : d.testBit k = true) : farF q d (trF q d k) = ltF q d k := by
  have hb := (trF_in hk b).2
  have hj := (trF_in hk b).1
  have h0 : d ≠ 0 := fun e => by rw [e, Nat.zero_testBit] at b; cases b
  have e1 := trF_last (d := d) hk
  rw [cl_in hj hb] at e1
  obtain ⟨L, e2, e3, _⟩ := far_spec (j := trF q d k) hq hd h0
  rw [e1] at e2
  have : k = L := Option.some.inj e2
  subst this
  have := ltF_in hq b
  omega
/-- what comes first comes by its own beat -/
theorem due_at {q m d i : Nat} (hq : 0 < q) (hd : d < 2 ^ q) (h0 : d ≠ 0) (hi : i < m) : duF q m d (snF q m d i) = some i := by
  have hj : i % q < q := Nat.mod_lt _ hq
  obtain ⟨L, e2, e3, bL, hL, top⟩ := far_spec (j := i % q) hq hd h0
  have fl := far_lt (q := q) (d := d) (j := i % q) hq
  have eL : (i + farF q d (i % q)) % q = L := by
    have h2 := arc_to hj hL
    rw [e3] at h2
    have : (((i % q + farF q d (i % q)) % q : Nat) : Int) = (L : Int) := by rw [Int.natCast_emod, Int.natCast_add]; exact h2
    have := Int.ofNat.inj this
    rw [Nat.mod_add_mod] at this
    exact this
  unfold snF
  by_cases hl : i + 1 = m
  · rw [if_pos hl]
    unfold duF
    rw [eL]
    have hle : ltF q d L ≤ farF q d (i % q) := by
      have h1 := ltF_in hq bL
      obtain ⟨hj', bj'⟩ := trF_in hL bL
      have h2 := ar_from (q := q) (st := i % q) (k := trF q d L) (x := L) hq
      have h3 := top _ bj'
      rw [← e3] at h3
      rw [if_pos h3] at h2
      have := ar_nn (q := q) (j := i % q) (x := trF q d L) hq
      omega
    rw [if_neg (by omega)]
    congr 1
    omega
  · rw [if_neg hl]
    unfold dyF
    cases b : d.testBit (i % q) with
    | true =>
      rw [if_pos rfl]
      unfold duF
      rw [eL]
      have e4 : i % q = trF q d L := (trF_iff hj hL).mp (by rw [cl_in hj b]; exact e2)
      have e5 : ltF q d L = farF q d (i % q) := by rw [e4]; exact (far_last hq hd hL bL).symm
      rw [e5, if_neg (by omega)]
      congr 1
      omega
    | false =>
      rw [if_neg (by decide)]
      unfold duF
      rw [Nat.add_mod_right, ltF_out b, if_neg (by omega)]
      congr 1
      omega
/-- all bits of the set are crossed by then -/
theorem bits_by {q d st k x : Nat} (hq : 0 < q) (hk : k < q) (b : d.testBit k = true) (hst : (ltF q d k : Int) ≤ ar q st k) (hx : x < q) (bx : d.testBit x = true) : ar q st x ≤ ar q st k := by
  refine Classical.byContradiction fun hc => ?_
  obtain ⟨hj, bj⟩ := trF_in hk b
  have h1 := ltF_in hq b
  have eh := trF_head hk b
  have least : ar q (k + 1) (trF q d k) ≤ ar q (k + 1) x := by
    have mx : x ∈ rb q d (k + 1) := mem_rb.mpr ⟨hx, bx⟩
    have hs := rb_sorted q d (k + 1)
    cases e : rb q d (k + 1) with
    | nil => rw [e] at mx; exact absurd mx List.not_mem_nil
    | cons z l =>
      rw [e] at mx hs eh
      have ez : z = trF q d k := Option.some.inj eh
      rw [← ez]
      rcases List.mem_cons.mp mx with rfl | mx
      · exact Int.le_refl _
      · exact Int.le_of_lt ((List.pairwise_cons.mp hs).1 x mx)
  have n1 := ar_next (q := q) (st := st) (k := k) (x := x) hq
  have n2 := ar_next (q := q) (st := st) (k := k) (x := trF q d k) hq
  have n3 := ar_from (q := q) (st := st) (k := trF q d k) (x := k) hq
  have a1 := ar_lt (q := q) (j := st) (x := x) hq
  have a2 := ar_nn (q := q) (j := st) (x := trF q d k) hq
  have a3 := ar_lt (q := q) (j := st) (x := trF q d k) hq
  rw [if_pos (by omega)] at n1
  by_cases c : ar q st (trF q d k) ≤ ar q st k
  · rw [if_neg (by omega)] at n2
    omega
  · rw [if_neg c] at n3
    omega
/-- what is heard was heard by then, and who tells it had it ahead -/
theorem heard_by {q m d t i : Nat} (hq : 0 < q) (hm : 0 < m) (hd : d < 2 ^ q) (h0 : d ≠ 0) (h : duF q m d t = some i) : i < m ∧ snF q m d i ≤ t ∧ (d ^^^ 2 ^ (t % q) = 0 ∨ snF q m (d ^^^ 2 ^ (t % q)) i < t) := by
  have hk : t % q < q := Nat.mod_lt _ hq
  unfold duF at h
  split at h
  · cases h
  rename_i hlt
  have ei := Option.some.inj h
  have hd' : d ^^^ 2 ^ (t % q) < 2 ^ q := Nat.xor_lt_two_pow hd (Nat.pow_lt_pow_right (by decide) hk)
  have far' : ∀ st e, (∀ x, (d ^^^ 2 ^ (t % q)).testBit x = true → ar q st x < e) → d ^^^ 2 ^ (t % q) ≠ 0 → (farF q (d ^^^ 2 ^ (t % q)) st : Int) < e := fun st e hx hne => by
    obtain ⟨L, _, e3, bL, _, _⟩ := far_spec (j := st) hq hd' hne
    rw [← e3]
    exact hx L bL
  by_cases hlast : t - ltF q d (t % q) < m - 1
  · have ei2 : i = t - ltF q d (t % q) := by omega
    refine ⟨by omega, ?_⟩
    unfold snF
    rw [if_neg (by omega), if_neg (by omega)]
    cases b : d.testBit (t % q) with
    | true =>
      have em : i % q = trF q d (t % q) := by rw [ei2]; exact tree_mod hq b hlt
      obtain ⟨hj, bj⟩ := trF_in hk b
      have fl := far_last hq hd hk b
      unfold dyF
      rw [em, if_pos bj, fl]
      refine ⟨by omega, ?_⟩
      by_cases z : d ^^^ 2 ^ (t % q) = 0
      · exact .inl z
      refine .inr ?_
      have l1 := ltF_in hq b
      have hlt2 := far' (trF q d (t % q)) (ltF q d (t % q)) (fun x hx => ?_) z
      · have bj' : (d ^^^ 2 ^ (t % q)).testBit (trF q d (t % q)) = true := by
          rw [bit_xor, bj]
          by_cases e : t % q = trF q d (t % q)
          · exfalso
            -- the only bit
            have e0 : ltF q d (t % q) = 0 := by
              rw [← e, ar_self] at l1
              omega
            rw [e0] at hlt2
            omega
          · rw [decide_eq_false e]
            rfl
        rw [if_pos bj']
        omega
      · rw [bit_xor] at hx
        have hne : t % q ≠ x := fun e => by
          subst e
          rw [b, decide_eq_true rfl] at hx
          cases hx
        rw [decide_eq_false hne, Bool.xor_false] at hx
        have hxq := lt_of_bit hd hx
        obtain ⟨L, _, e3, _, _, top⟩ := far_spec (j := trF q d (t % q)) hq hd h0
        have h1 := top x hx
        have h2 : ar q (trF q d (t % q)) x ≠ ar q (trF q d (t % q)) (t % q) := fun e => hne (ar_inj hxq hk e).symm
        omega
    | false =>
      have l1 := ltF_out (q := q) b
      rw [l1] at hlt ei2
      have em : i % q = t % q := by
        rw [ei2]
        obtain ⟨c, hc⟩ := Nat.exists_eq_add_of_le (Nat.le_of_not_lt hlt)
        rw [hc, Nat.add_sub_cancel_left, Nat.add_mod_left]
      unfold dyF
      rw [em, b, if_neg (by decide)]
      refine ⟨by omega, .inr ?_⟩
      have bj' : (d ^^^ 2 ^ (t % q)).testBit (t % q) = true := by
        rw [bit_xor, b, decide_eq_true rfl]
        rfl
      rw [if_pos bj']
      have := far_lt (q := q) (d := d ^^^ 2 ^ (t % q)) (j := t % q) hq
      omega
  · have ei2 : i = m - 1 := by omega
    refine ⟨by omega, ?_⟩
    unfold snF
    rw [if_pos (by omega), if_pos (by omega)]
    have f1 := far_lt (q := q) (d := d) (j := i % q) hq
    have f2 := far_lt (q := q) (d := d ^^^ 2 ^ (t % q)) (j := i % q) hq
    by_cases hbig : i + q ≤ t
    · exact ⟨by omega, .inr (by omega)⟩
    cases b : d.testBit (t % q) with
    | false =>
      have l1 := ltF_out (q := q) b
      omega
    | true =>
      obtain ⟨e, he⟩ := Nat.exists_eq_add_of_le (show i ≤ t by omega)
      have heq : e < q := by omega
      have ea : ar q (i % q) (t % q) = (e : Int) := by rw [he]; exact ar_add heq
      have all : ∀ x, d.testBit x = true → ar q (i % q) x ≤ (e : Int) := fun x bx => by
        rw [← ea]
        exact bits_by hq hk b (by rw [ea]; omega) (lt_of_bit hd bx) bx
      constructor
      · obtain ⟨L, _, e3, bL, _, _⟩ := far_spec (j := i % q) hq hd h0
        have := all L bL
        omega
      · by_cases z : d ^^^ 2 ^ (t % q) = 0
        · exact .inl z
        refine .inr ?_
        have := far' (i % q) e (fun x hx => ?_) z
        · omega
        · rw [bit_xor] at hx
          have hne : t % q ≠ x := fun e => by
            subst e
            rw [b, decide_eq_true rfl] at hx
            cases hx
          rw [decide_eq_false hne, Bool.xor_false] at hx
          have h1 := all x hx
          have h2 : ar q (i % q) x ≠ ar q (i % q) (t % q) := fun e => hne (ar_inj (lt_of_bit hd hx) hk e).symm
          omega
end Bf
namespace Bf
open PySem PySem.Spec PyProof.Rows L2 LamX NdefX
/-! ### None, truths and numbers as data -/
def sd : V → PyData
  | .non => .none
  | .bl b => .bool b
  | .int n => .int n
  | _ => .none
def SmV (v : V) : Prop := v = .non ∨ (∃ b, v = .bl b) ∨ ∃ n : Nat, n < 2 ^ 61 ∧ v = .int (n : Int)
theorem SmV.non : SmV .non := .inl rfl
theorem SmV.bl (b : Bool) : SmV (.bl b) := .inr (.inl ⟨b, rfl⟩)
theorem SmV.int {n : Nat} (h : n < 2 ^ 61) : SmV (.int (n : Int)) := .inr (.inr ⟨n, h, rfl⟩)
theorem SmV.dp {K : PySem.W.Frag} {H : Hp} {v : V} (h : SmV v) : Dp K H v (sd v) := by
  rcases h with rfl | ⟨b, rfl⟩ | ⟨n, _, rfl⟩
  · exact .non
  · exact .bl _
  · exact .int _
theorem sm_dp {K : PySem.W.Frag} {H : Hp} : ∀ vs : List V, (∀ v ∈ vs, SmV v) → DpAll K H vs (vs.map sd)
  | [], _ => .nil
  | v :: vs, h => .cons (h v List.mem_cons_self).dp (sm_dp vs fun x hx => h x (List.mem_cons_of_mem _ hx))
theorem sm_show : ∀ vs : List V, (∀ v ∈ vs, SmV v) → PyData.showableAll (vs.map sd) = true ∧ PyData.hasDictAll (vs.map sd) = false ∧ PyData.depthAll (vs.map sd) ≤ 1 ∧ PyData.leavesShortAll 64 (vs.map sd) = true ∧ PyData.weightAll (vs.map sd) ≤ 63 * vs.length
  | [], _ => ⟨rfl, rfl, by simp [PyData.depthAll], rfl, Nat.le_refl _⟩
  | v :: vs, h => by
    obtain ⟨i1, i2, i3, i4, i5⟩ := sm_show vs fun x hx => h x (List.mem_cons_of_mem _ hx)
    have hv : PyData.showable (sd v) = true ∧ PyData.hasDict (sd v) = false ∧ PyData.depth (sd v) ≤ 1 ∧ PyData.leavesShort 64 (sd v) = true ∧ PyData.weight (sd v) ≤ 62 := by
      rcases h v List.mem_cons_self with rfl | ⟨b, rfl⟩ | ⟨n, hn, rfl⟩
      · exact ⟨rfl, rfl, by decide, by decide, by decide⟩
      · cases b
        · exact ⟨rfl, rfl, by decide, by decide, by decide⟩
        · exact ⟨rfl, rfl, by decide, by decide, by decide⟩
      · have z1 := nd_show [n] (fun x hx => by rw [List.mem_singleton.mp hx]; exact hn)
        have z4 := nd_leaves [n] (fun x hx => by rw [List.mem_singleton.mp hx]; exact hn)
        have z5 := nd_weight [n] (fun x hx => by rw [List.mem_singleton.mp hx]; exact hn)
        have w1 : (PyData.showable (.int (n : Int)) && true) = true := z1
        have w4 : (PyData.leavesShort 64 (.int (n : Int)) && true) = true := z4
        have w5 : PyData.weight (.int (n : Int)) + 1 + 0 ≤ 63 * 1 := z5
        rw [Bool.and_true] at w1 w4
        exact ⟨w1, rfl, by show PyData.depth (.int (n : Int)) ≤ 1; simp [PyData.depth], w4, by show PyData.weight (.int (n : Int)) ≤ 62; omega⟩
    obtain ⟨h1, h2, h3, h4, h5⟩ := hv
    refine ⟨?_, ?_, ?_, ?_, ?_⟩
    · show (PyData.showable (sd v) && PyData.showableAll (vs.map sd)) = true
      rw [h1, i1]; rfl
    · show (PyData.hasDict (sd v) || PyData.hasDictAll (vs.map sd)) = false
      rw [h2, i2]; rfl
    · show max (PyData.depth (sd v)) (PyData.depthAll (vs.map sd)) ≤ 1
      omega
    · show (PyData.leavesShort 64 (sd v) && PyData.leavesShortAll 64 (vs.map sd)) = true
      rw [h4, i4]; rfl
    · show PyData.weight (sd v) + 1 + PyData.weightAll (vs.map sd) ≤ 63 * (vs.length + 1)
      omega
theorem sm_rep {vs : List V} (h : ∀ v ∈ vs, SmV v) (hl : vs.length ≤ 1000) : (PyData.list (vs.map sd)).showable = true ∧ (PyData.list (vs.map sd)).hasDict = false ∧ (PyData.list (vs.map sd)).depth < 60 ∧ (PyData.list (vs.map sd)).shown.length ≤ sizeLine := by
  obtain ⟨i1, i2, i3, i4, i5⟩ := sm_show vs h
  refine ⟨i1, i2, ?_, ?_⟩
  · show PyData.depthAll (vs.map sd) + 1 < 60
    omega
  · have h1 := PyData.shown_le 64 (by decide) (.list (vs.map sd)) i4
    have h2 : PyData.weight (.list (vs.map sd)) ≤ 63 * vs.length := i5
    rw [sizeLine_eq]
    have h3 : (64 + 2) * PyData.weight (.list (vs.map sd)) ≤ 66 * (63 * 1000) := Nat.mul_le_mul (by decide) (by omega)
    omega
/-- repr of None or a number -/
theorem call_reprO {X : Cx} : CallR X (.builtin "repr") (fun xs H Q => (xs = [.non] ∧ Q (.str "None") H) ∨ ∃ i : Int, xs = [.int i] ∧ i.natAbs.log2 < 1920 ∧ Q (.str (toString i)) H) := by
  intro pins s σ H xs us Q I r h
  rcases h with ⟨rfl, q⟩ | h
  · obtain ⟨u, rfl, ru⟩ := vals1 r
    cases ru
    exact P.repr_of_none ⟨.str "None", H, I.tok _, ⟨_, rfl⟩, q⟩
  · exact call_reprN pins s σ H xs us Q I r h
theorem rd_ifV {tt : TT} {ta tb : TE} {σ : L2.St} {H : Hp} {Q : VK} (b : Bool) (v : V) (h0 : ∀ Q' : Bool → Hp → Prop, Q' b H → tt σ H Q') (h1 : b = true → Gives ta σ H v) (h2 : b = false → Gives tb σ H v) (h : Q v H) : tIf tt ta tb σ H Q := by
  refine h0 _ ?_
  cases b with
  | true => exact iteT (h1 rfl _ h)
  | false => exact iteF (h2 rfl _ h)
theorem rd_ifF {tt : TT} {A B : TS} {D : Ends} {σ : L2.St} {H : Hp} (h0 : ∀ Q' : Bool → Hp → Prop, Q' false H → tt σ H Q') (h : B D σ H) : tIfS tt A B D σ H := h0 _ (iteF h)
/-! ### the last beat -/
def lbF (q m d : Nat) : Nat := if m = 1 then snF q m d 0 else m - 2 + q
theorem lb_top {q m d i : Nat} (hq : 0 < q) (hi : i < m) : snF q m d i ≤ lbF q m d := by
  unfold lbF
  by_cases e : m = 1
  · rw [if_pos e]
    have : i = 0 := by omega
    subst this
    exact Nat.le_refl _
  · rw [if_neg e]
    unfold snF
    have h1 := far_lt (q := q) (d := d) (j := i % q) hq
    have h2 := dy_le (q := q) (d := d) (j := i % q) hq
    split <;> omega
theorem lb_is {q m d : Nat} (hq : 0 < q) (hm : 0 < m) (hd : d < 2 ^ q) (h0 : d ≠ 0) : ∃ i, i < m ∧ snF q m d i = lbF q m d := by
  unfold lbF
  by_cases e : m = 1
  · rw [if_pos e]
    exact ⟨0, by omega, rfl⟩
  · rw [if_neg e]
    cases b : d.testBit ((m - 2) % q) with
    | false =>
      refine ⟨m - 2, by omega, ?_⟩
      unfold snF dyF
      rw [if_neg (by omega), b]
      rfl
    | true =>
      refine ⟨m - 1, by omega, ?_⟩
      unfold snF
      rw [if_pos (by omega)]
      obtain ⟨L, _, e3, _, _, top⟩ := far_spec (j := (m - 1) % q) hq hd h0
      have h1 := top _ b
      have h2 := far_lt (q := q) (d := d) (j := (m - 1) % q) hq
      have e4 : ar q ((m - 1) % q) ((m - 2) % q) = (q : Int) - 1 := by
        have h3 := ar_add (q := q) (i := m - 1) (e := q - 1) (by omega)
        have e5 : (m - 1 + (q - 1)) % q = (m - 2) % q := by
          rw [show m - 1 + (q - 1) = m - 2 + q by omega, Nat.add_mod_right]
        rw [e5] at h3
        omega
      omega
theorem lb_one {q d : Nat} (hq : 0 < q) (hd : d < 2 ^ q) (h0 : d ≠ 0) : lbF q 1 d ≤ q - 1 ∧ (d.testBit (q - 1) = true → lbF q 1 d = q - 1) := by
  unfold lbF snF
  rw [if_pos rfl, if_pos rfl, Nat.zero_mod, Nat.zero_add]
  have h2 := far_lt (q := q) (d := d) (j := 0) hq
  refine ⟨by omega, fun b => ?_⟩
  obtain ⟨L, _, e3, _, _, top⟩ := far_spec (j := 0) hq hd h0
  have h1 := top _ b
  have h3 := ar_at (q := q) 0 (i := q - 1) (by omega)
  rw [Nat.zero_add, Nat.mod_eq_of_lt (by omega)] at h3
  omega
end Bf
namespace Bf
open PySem PySem.Spec PyProof.Rows L2 LamX NdefX
/-! ### each letter once -/
theorem heard_once {q m d t i : Nat} (hq : 0 < q) (hm : 0 < m) (hd : d < 2 ^ q) (h0 : d ≠ 0) (hi : i + 1 < m) (h : duF q m d t = some i) : snF q m d i = t := by
  have hk : t % q < q := Nat.mod_lt _ hq
  unfold duF at h
  split at h
  · cases h
  rename_i hlt
  have ei := Option.some.inj h
  have ei2 : i = t - ltF q d (t % q) := by omega
  unfold snF
  rw [if_neg (by omega)]
  cases b : d.testBit (t % q) with
  | true =>
    have em : i % q = trF q d (t % q) := by rw [ei2]; exact tree_mod hq b hlt
    obtain ⟨hj, bj⟩ := trF_in hk b
    have fl := far_last hq hd hk b
    unfold dyF
    rw [em, if_pos bj, fl]
    omega
  | false =>
    have l1 := ltF_out (q := q) b
    rw [l1] at hlt ei2
    have em : i % q = t % q := by
      rw [ei2]
      obtain ⟨c, hc⟩ := Nat.exists_eq_add_of_le (Nat.le_of_not_lt hlt)
      rw [hc, Nat.add_sub_cancel_left, Nat.add_mod_left]
    unfold dyF
    rw [em, b, if_neg (by decide)]
    omega
/-- the beats of a stretch at which a letter is heard -/
def onL (q m d i lo n : Nat) : List Nat := ((List.range n).map fun r => lo + r).filter fun t => decide (duF q m d t = some i)
theorem onL_succ (q m d i lo n : Nat) : onL q m d i lo (n + 1) = onL q m d i lo n ++ (if duF q m d (lo + n) = some i then [lo + n] else []) := by
  unfold onL
  rw [List.range_succ, List.map_append, List.filter_append]
  by_cases e : duF q m d (lo + n) = some i <;> simp [e]
theorem onL_len (q m d i lo n : Nat) : (onL q m d i lo n).length ≤ n := by
  unfold onL
  have := List.length_filter_le (fun t => decide (duF q m d t = some i)) ((List.range n).map fun r => lo + r)
  rw [List.length_map, List.length_range] at this
  exact this
theorem onL_mem {q m d i lo n t : Nat} : t ∈ onL q m d i lo n ↔ (lo ≤ t ∧ t < lo + n) ∧ duF q m d t = some i := by
  unfold onL
  rw [List.mem_filter, List.mem_map]
  constructor
  · rintro ⟨⟨r, hr, rfl⟩, hp⟩
    have := List.mem_range.mp hr
    exact ⟨⟨by omega, by omega⟩, of_decide_eq_true hp⟩
  · rintro ⟨⟨h1, h2⟩, hp⟩
    exact ⟨⟨t - lo, List.mem_range.mpr (by omega), by omega⟩, decide_eq_true hp⟩
theorem onL_sorted (q m d i lo n : Nat) : (onL q m d i lo n).Pairwise (fun (a b : Nat) => (a : Int) < (b : Int)) := by
  unfold onL
  refine List.Pairwise.filter _ ?_
  rw [List.pairwise_map]
  exact List.pairwise_lt_range.imp fun {a b} h => by omega
theorem on_one {q m d i : Nat} (hq : 0 < q) (hd : d < 2 ^ q) (h0 : d ≠ 0) (hi : i + 1 < m) : onL q m d i (i - 2) (i + q + 2 - (i - 2)) = [snF q m d i] := by
  refine uniq_sorted (key := fun n : Nat => (n : Int)) (onL_sorted ..) (List.pairwise_singleton _ _) fun x => ?_
  rw [onL_mem, List.mem_singleton]
  constructor
  · exact fun h => (heard_once hq (by omega) hd h0 hi h.2).symm
  · rintro rfl
    have h1 := due_at (m := m) hq hd h0 (show i < m by omega)
    have h2 := sn_le (q := q) (m := m) (d := d) (i := i) hq
    have h3 : i ≤ snF q m d i := by
      unfold snF
      split <;> omega
    exact ⟨⟨by omega, by omega⟩, h1⟩
theorem due_late {q m d t : Nat} (hq : 0 < q) (hm : 0 < m) (ht : m - 1 + q ≤ t) : duF q m d t = some (m - 1) := by
  unfold duF
  have := ltF_le (q := q) (d := d) (k := t % q) hq
  rw [if_neg (by omega)]
  congr 1
  omega
theorem on_last {q m d i : Nat} (hq : 0 < q) (hd : d < 2 ^ q) (h0 : d ≠ 0) (hi : i + 1 = m) : ∃ l, onL q m d i (i - 2) (i + q + 2 - (i - 2)) = snF q m d i :: l := by
  have h1 := due_at (m := m) hq hd h0 (show i < m by omega)
  have h2 := sn_le (q := q) (m := m) (d := d) (i := i) hq
  have h3 : i ≤ snF q m d i := by
    unfold snF
    split <;> omega
  have hmem : snF q m d i ∈ onL q m d i (i - 2) (i + q + 2 - (i - 2)) := onL_mem.mpr ⟨⟨by omega, by omega⟩, h1⟩
  have hs := onL_sorted q m d i (i - 2) (i + q + 2 - (i - 2))
  cases e : onL q m d i (i - 2) (i + q + 2 - (i - 2)) with
  | nil => rw [e] at hmem; exact absurd hmem List.not_mem_nil
  | cons a l =>
    have ha : a ∈ onL q m d i (i - 2) (i + q + 2 - (i - 2)) := by rw [e]; exact List.mem_cons_self
    have hle := (heard_by hq (by omega) hd h0 (onL_mem.mp ha).2).2.1
    rw [e] at hmem hs
    rcases List.mem_cons.mp hmem with e1 | e1
    · exact ⟨l, by rw [e1]⟩
    · have := (List.pairwise_cons.mp hs).1 _ e1
      omega
theorem on_late {q m d i : Nat} (hq : 0 < q) (hi : i + 1 = m) : (onL q m d i (i - 2) (i + q + 2 - (i - 2))).filter (fun t => decide (i + q ≤ t)) = [i + q, i + q + 1] := by
  refine uniq_sorted (key := fun n : Nat => (n : Int)) (List.Pairwise.filter _ (onL_sorted ..)) (by simp) fun x => ?_
  rw [List.mem_filter, onL_mem]
  have em : m - 1 = i := by omega
  constructor
  · rintro ⟨⟨⟨h1, h2⟩, _⟩, h3⟩
    have := of_decide_eq_true h3
    have : x = i + q ∨ x = i + q + 1 := by omega
    rcases this with rfl | rfl <;> simp
  · intro h
    have : x = i + q ∨ x = i + q + 1 := by simpa using h
    have hd2 := due_late (q := q) (m := m) (d := d) (t := x) hq (by omega) (by omega)
    rw [em] at hd2
    exact ⟨⟨⟨by omega, by omega⟩, hd2⟩, decide_eq_true (by omega)⟩
end Bf
namespace Bf
open PySem PySem.Spec PyProof.Rows L2
/-! ### ways grow -/
theorem tp_bit {q d j n : Nat} (hj : j < q) (hn : n < q) : tp q (d ^^^ 2 ^ j) j n = tp q d j n := by
  unfold tp
  refine List.filter_congr fun x hx => ?_
  obtain ⟨i, hi, rfl⟩ := List.mem_map.mp hx
  have hi := List.mem_range.mp hi
  have ea := ar_at (q := q) (i := 1 + i) j (by omega)
  have hne : ¬ j = (j + (1 + i)) % q := fun z => by
    rw [← z, ar_self] at ea
    omega
  rw [bit_xor, decide_eq_false hne, Bool.xor_false]
theorem grow {q d j k : Nat} (hj : j < q) (hk : k < q) (hd : d < 2 ^ q) (hr : Hr q d j k) : (d = 0 → k = j ∧ cl q (d ^^^ 2 ^ k) j = [k]) ∧ (d ≠ 0 → cl q (d ^^^ 2 ^ k) j = cl q d j ++ [k]) := by
  have hq : 0 < q := by omega
  rcases (hr_iff hj hk hd).mp hr with ⟨rfl, h⟩ | ⟨b, hne, hlt⟩
  · constructor
    · intro e
      subst e
      refine ⟨rfl, ?_⟩
      have b1 : (0 ^^^ 2 ^ k).testBit k = true := by rw [bit_xor, Nat.zero_testBit, decide_eq_true rfl]; rfl
      have e1 : tp q (0 ^^^ 2 ^ k) k (q - 1) = tp q 0 k (q - 1) := tp_bit hj (by omega)
      have e2 : tp q 0 k (q - 1) = [] := by
        unfold tp
        simp
      unfold cl
      rw [b1, e1, e2]
      rfl
    · intro e
      have b : d.testBit k = true := h.resolve_left e
      have b1 : (d ^^^ 2 ^ k).testBit k = false := by rw [bit_xor, b, decide_eq_true rfl]; rfl
      have e1 : tp q (d ^^^ 2 ^ k) k (q - 1) = tp q d k (q - 1) := tp_bit hj (by omega)
      unfold cl
      rw [b1, b, e1]
      simp
  · have e0 : d ≠ 0 := fun z => by
      rw [z, Nat.zero_testBit] at b
      cases b
    refine ⟨fun z => absurd z e0, fun _ => ?_⟩
    have hkj : ¬ k = j := hne
    have b1 : (d ^^^ 2 ^ k).testBit j = true := by rw [bit_xor, b, decide_eq_false hkj]; rfl
    have bk : d.testBit k = false := by
      cases z : d.testBit k with
      | false => rfl
      | true => exact absurd (hlt k z) (Int.lt_irrefl _)
    rw [cl_in hj b1, cl_in hj b]
    refine uniq_sorted (key := fun x => ar q j x) (rb_sorted q _ j) ?_ fun x => ?_
    · refine List.pairwise_append.mpr ⟨rb_sorted q d j, List.pairwise_singleton _ _, fun x hx y hy => ?_⟩
      rw [List.mem_singleton.mp hy]
      exact hlt x (mem_rb.mp hx).2
    · rw [List.mem_append, List.mem_singleton, mem_rb, mem_rb, bit_xor]
      by_cases e : k = x
      · subst e
        rw [bk, decide_eq_true rfl]
        simp [hk]
      · rw [decide_eq_false e, Bool.xor_false]
        simp [Ne.symm (show k ≠ x from e)]
/-- back by the last crossing -/
theorem back {q d j : Nat} (hj : j < q) (hd : d < 2 ^ q) : ∃ k, k < q ∧ (cl q d j).getLast? = some k ∧ Hr q (d ^^^ 2 ^ k) j k ∧ d ^^^ 2 ^ k < 2 ^ q ∧ d = (d ^^^ 2 ^ k) ^^^ 2 ^ k := by
  have hne := cl_ne q d j
  have e2 : ∀ k, (d ^^^ 2 ^ k) ^^^ 2 ^ k = d := fun k => by rw [Nat.xor_assoc, Nat.xor_self, Nat.xor_zero]
  have hk : (cl q d j).getLast hne < q := cl_lt hj (List.getLast_mem hne)
  refine ⟨_, hk, List.getLast?_eq_getLast hne, ?_, Nat.xor_lt_two_pow hd (Nat.pow_lt_pow_right (by decide) hk), (e2 _).symm⟩
  unfold Hr
  rw [e2]
  exact List.getLast?_eq_getLast hne
/-- the part up to each hand on a way is that hand's own way -/
theorem part {q j : Nat} (hj : j < q) : ∀ (n : Nat) (d : Nat), d < 2 ^ q → (cl q d j).length = n → ∀ i, 1 ≤ i → i ≤ n → wf 0 ((cl q d j).take i) < 2 ^ q ∧ cl q (wf 0 ((cl q d j).take i)) j = (cl q d j).take i
  | 0, d, hd, hl, i, h1, h2 => absurd h1 (by omega)
  | n + 1, d, hd, hl, i, h1, h2 => by
    by_cases e : i = n + 1
    · rw [e, ← hl, List.take_length, wf_cl hj hd, Nat.zero_xor]
      exact ⟨hd, rfl⟩
    · obtain ⟨k, hk, _, hr, hd', ed⟩ := back hj hd
      obtain ⟨g1, g2⟩ := grow hj hk hd' hr
      rw [← ed] at g1 g2
      by_cases z : d ^^^ 2 ^ k = 0
      · obtain ⟨_, g⟩ := g1 z
        rw [g] at hl
        have : n = 0 := by
          have : (1 : Nat) = n + 1 := hl
          omega
        omega
      · have g := g2 z
        have hl2 : (cl q (d ^^^ 2 ^ k) j).length = n := by
          rw [g, List.length_append] at hl
          exact Nat.succ.inj hl
        have ih := part hj n (d ^^^ 2 ^ k) hd' hl2 i h1 (by omega)
        have et : (cl q d j).take i = (cl q (d ^^^ 2 ^ k) j).take i := by
          rw [g, List.take_append_of_le_length (by omega)]
        rw [et]
        exact ih
theorem wl_map (s : Nat) (ks : List Nat) (c : Nat) : (wl s ks).drop c = ((List.range (ks.length + 1)).drop c).map fun i => wf s (ks.take i) := by
  unfold wl
  rw [List.map_drop]
theorem wf_part {q d j s i : Nat} (hj : j < q) (hd : d < 2 ^ q) (h1 : 1 ≤ i) (h2 : i ≤ (cl q d j).length) : cl q (wf s ((cl q d j).take i) ^^^ s) j = (cl q d j).take i := by
  have := (part hj _ d hd rfl i h1 h2).2
  rw [wf_xor, Nat.xor_comm s, Nat.xor_assoc, Nat.xor_self, Nat.xor_zero]
  exact this
/-- a hand on two ways is come to by one part -/
theorem meet {q j s d1 d2 i i' : Nat} (hj : j < q) (h1 : d1 < 2 ^ q) (h2 : d2 < 2 ^ q) (hi : i ≤ (cl q d1 j).length) (hi' : i' ≤ (cl q d2 j).length) (e : wf s ((cl q d1 j).take i) = wf s ((cl q d2 j).take i')) (hs : wf s ((cl q d1 j).take i) ≠ s) :
    i = i' ∧ (cl q d1 j).take i = (cl q d2 j).take i' := by
  have p1 : 1 ≤ i := by
    rcases Nat.eq_zero_or_pos i with z | z
    · rw [z] at hs
      exact absurd rfl hs
    · exact z
  have p2 : 1 ≤ i' := by
    rcases Nat.eq_zero_or_pos i' with z | z
    · rw [e, z] at hs
      exact absurd rfl hs
    · exact z
  have t1 := wf_part (s := s) hj h1 p1 hi
  have t2 := wf_part (s := s) hj h2 p2 hi'
  rw [e] at t1
  have t : (cl q d1 j).take i = (cl q d2 j).take i' := t1.symm.trans t2
  have l := congrArg List.length t
  rw [List.length_take, List.length_take] at l
  exact ⟨by omega, t⟩
theorem ends_one {q j s d c : Nat} (hj : j < q) (hd : d < 2 ^ q) : (((wl s (cl q d j)).drop c).filter fun x => !decide (x = s)).Nodup := by
  rw [wl_map, List.filter_map]
  unfold List.Nodup
  rw [List.pairwise_map]
  have hp : (((List.range ((cl q d j).length + 1)).drop c).filter ((fun x => !decide (x = s)) ∘ fun i => wf s ((cl q d j).take i))).Pairwise (· < ·) := List.Pairwise.filter _ (List.Pairwise.drop List.pairwise_lt_range)
  refine hp.imp_of_mem fun {a b} ha hb hab e => ?_
  obtain ⟨ha1, ha2⟩ := List.mem_filter.mp ha
  obtain ⟨hb1, _⟩ := List.mem_filter.mp hb
  have ha1 := List.mem_range.mp (List.mem_of_mem_drop ha1)
  have hb1 := List.mem_range.mp (List.mem_of_mem_drop hb1)
  have hne : wf s ((cl q d j).take a) ≠ s := by simpa using ha2
  have := (meet hj hd hd (by omega) (by omega) e hne).1
  omega
theorem ends_two {q j s d1 d2 c : Nat} (hj : j < q) (h1 : d1 < 2 ^ q) (h2 : d2 < 2 ^ q) (hm : ¬ (c < (cl q d1 j).length + 1 ∧ c < (cl q d2 j).length + 1 ∧ wf s ((cl q d1 j).take c) = wf s ((cl q d2 j).take c))) :
    (((wl s (cl q d1 j)).drop c ++ (wl s (cl q d2 j)).drop c).filter fun x => !decide (x = s)).Nodup := by
  rw [List.filter_append]
  refine List.nodup_append.mpr ⟨ends_one hj h1, ends_one hj h2, fun x hx y hy e => ?_⟩
  subst e
  obtain ⟨hx1, hx2⟩ := List.mem_filter.mp hx
  obtain ⟨hy1, _⟩ := List.mem_filter.mp hy
  have hne : x ≠ s := by simpa using hx2
  rw [wl_map] at hx1 hy1
  obtain ⟨i, hi, ei⟩ := List.mem_map.mp hx1
  obtain ⟨i', hi', ei'⟩ := List.mem_map.mp hy1
  have hir := List.mem_range.mp (List.mem_of_mem_drop hi)
  have hir' := List.mem_range.mp (List.mem_of_mem_drop hi')
  have hci : c ≤ i := by
    obtain ⟨m, hm1, e⟩ := List.mem_drop_iff_getElem.mp hi
    rw [List.getElem_range] at e
    omega
  obtain ⟨e1, e2⟩ := meet hj h1 h2 (by omega) (by omega) (ei.trans ei'.symm) (by rw [ei]; exact hne)
  refine hm ⟨by omega, by omega, ?_⟩
  have t : (cl q d1 j).take c = (cl q d2 j).take c := by
    have := congrArg (List.take c) e2
    rw [List.take_take, List.take_take, Nat.min_eq_left hci, Nat.min_eq_left (by omega)] at this
    exact this
  rw [t]
theorem wl_take {s : Nat} {ks : List Nat} {i : Nat} (h : i ≤ ks.length) : (wl s ks).take (i + 1) = wl s (ks.take i) := by
  unfold wl
  rw [← List.map_take, List.take_range, List.length_take, Nat.min_eq_left h, Nat.min_eq_left (by omega)]
  refine List.map_congr_left fun m hm => ?_
  have := List.mem_range.mp hm
  rw [List.take_take, Nat.min_eq_left (by omega)]
theorem wl_init {s : Nat} {ks : List Nat} (h : ks ≠ []) : (wl s ks).dropLast = wl s ks.dropLast := by
  have hl : 1 ≤ ks.length := List.length_pos_iff.mpr h
  rw [List.dropLast_eq_take, wl_len, List.dropLast_eq_take]
  have e : ks.length + 1 - 1 = (ks.length - 1) + 1 := by omega
  rw [e, wl_take (by omega)]
end Bf
namespace Bf
open PySem PySem.Spec PyProof.Rows L2
/-! ### all hands by hearers (for k11) -/
def tl (q j s x : Nat) : Nat := x ^^^ 2 ^ ((cl q (x ^^^ s) j).getLast (cl_ne _ _ _))
theorem hears_tl {q j s h x : Nat} (hj : j < q) (hh : h < 2 ^ q) : (∃ k, k < q ∧ x = h ^^^ 2 ^ k ∧ Hr q (h ^^^ s) j k) ↔ x < 2 ^ q ∧ tl q j s x = h := by
  constructor
  · rintro ⟨k, hk, rfl, hr⟩
    refine ⟨Nat.xor_lt_two_pow hh (Nat.pow_lt_pow_right (by decide) hk), ?_⟩
    have e1 : h ^^^ 2 ^ k ^^^ s = h ^^^ s ^^^ 2 ^ k := by rw [Nat.xor_assoc, Nat.xor_comm (2 ^ k) s, ← Nat.xor_assoc]
    have e2 : (cl q (h ^^^ 2 ^ k ^^^ s) j).getLast (cl_ne _ _ _) = k := by
      have h1 : (cl q (h ^^^ 2 ^ k ^^^ s) j).getLast? = some k := by rw [e1]; exact hr
      rw [List.getLast?_eq_getLast (cl_ne _ _ _)] at h1
      exact Option.some.inj h1
    unfold tl
    rw [e2, Nat.xor_assoc, Nat.xor_self, Nat.xor_zero]
  · rintro ⟨hx, rfl⟩
    have hk : (cl q (x ^^^ s) j).getLast (cl_ne _ _ _) < q := cl_lt hj (List.getLast_mem _)
    generalize hk0 : (cl q (x ^^^ s) j).getLast (cl_ne _ _ _) = k at hk
    have et : tl q j s x = x ^^^ 2 ^ k := by
      unfold tl
      rw [hk0]
    refine ⟨k, hk, by rw [et, Nat.xor_assoc, Nat.xor_self, Nat.xor_zero], ?_⟩
    unfold Hr
    have e1 : tl q j s x ^^^ s ^^^ 2 ^ k = x ^^^ s := by
      rw [et, Nat.xor_assoc x, Nat.xor_comm (2 ^ k) s, ← Nat.xor_assoc x, Nat.xor_assoc (x ^^^ s), Nat.xor_self, Nat.xor_zero]
    rw [e1, List.getLast?_eq_getLast (cl_ne _ _ _), hk0]
theorem reach {q j s : Nat} (hj : j < q) (hs : s < 2 ^ q) {P : Nat → Prop} (h0 : P s) (hP : ∀ h x, P h → x < 2 ^ q → tl q j s x = h → x ≠ s → P x) : ∀ (n x : Nat), x < 2 ^ q → (cl q (x ^^^ s) j).length ≤ n → x ≠ s → P x
  | 0, x, hx, hl, _ => absurd (List.length_pos_iff.mpr (cl_ne q (x ^^^ s) j)) (by omega)
  | n + 1, x, hx, hl, hne => by
    have hd : x ^^^ s < 2 ^ q := Nat.xor_lt_two_pow hx hs
    obtain ⟨k, hk, hlast, hr, hd', ed⟩ := back hj hd
    have et : tl q j s x = x ^^^ 2 ^ k := by
      rw [List.getLast?_eq_getLast (cl_ne _ _ _)] at hlast
      unfold tl
      rw [Option.some.inj hlast]
    have e1 : x ^^^ 2 ^ k ^^^ s = x ^^^ s ^^^ 2 ^ k := by rw [Nat.xor_assoc, Nat.xor_comm (2 ^ k) s, ← Nat.xor_assoc]
    refine hP (tl q j s x) x ?_ hx rfl hne
    rw [et]
    by_cases z : x ^^^ 2 ^ k = s
    · rw [z]
      exact h0
    · have z2 : x ^^^ s ^^^ 2 ^ k ≠ 0 := fun y => z (by
        rw [← e1] at y
        have := congrArg (· ^^^ s) y
        simpa [Nat.xor_assoc] using this)
      have g := (grow hj hk hd' hr).2 z2
      rw [← ed] at g
      refine reach hj hs h0 hP n (x ^^^ 2 ^ k) (Nat.xor_lt_two_pow hx (Nat.pow_lt_pow_right (by decide) hk)) ?_ z
      rw [e1]
      rw [g, List.length_append] at hl
      have : (cl q (x ^^^ s ^^^ 2 ^ k) j).length + 1 ≤ n + 1 := hl
      omega
theorem tl_root {q j s : Nat} (hj : j < q) : tl q j s s = s ^^^ 2 ^ j := by
  unfold tl
  have e : (cl q (s ^^^ s) j).getLast? = some j := by
    rw [Nat.xor_self]
    exact cl_last_out hj (Nat.zero_testBit j)
  rw [List.getLast?_eq_getLast (cl_ne _ _ _)] at e
  rw [Option.some.inj e]
end Bf
namespace Bf
open PySem PySem.Spec PyProof.Rows L2
/-! ### delays counted (for k11) -/
def dlF (q d j : Nat) : Nat := if d.testBit j = true then (((List.range q).filter fun i => d.testBit ((j + i) % q)).getLast?).getD 0 else q
theorem dlF_is {q d j r : Nat} (h1 : d.testBit j = true → ∃ l, (rb q d j).getLast? = some l ∧ ar q j l = (r : Int)) (h2 : d.testBit j = false → r = q) : r = dlF q d j := by
  unfold dlF
  cases b : d.testBit j with
  | false =>
    rw [if_neg (by decide)]
    exact h2 b
  | true =>
    rw [if_pos rfl]
    obtain ⟨l, hl, el⟩ := h1 b
    have e : rb q d j = ((List.range q).filter fun i => d.testBit ((j + i) % q)).map fun i => (j + i) % q := by
      unfold rb
      rw [List.filter_map]
      rfl
    rw [e, List.getLast?_map] at hl
    cases z : ((List.range q).filter fun i => d.testBit ((j + i) % q)).getLast? with
    | none => rw [z] at hl; cases hl
    | some i =>
      rw [z] at hl
      have e2 : (j + i) % q = l := Option.some.inj hl
      have hi : i < q := List.mem_range.mp (List.mem_filter.mp (List.mem_of_getLast? z)).1
      rw [← e2, ar_at j hi] at el
      show r = i
      omega
def due (q t : Nat) : Nat := if t = 0 then 1 else if t < q then 2 ^ (t - 1) else 2 ^ (q - 1)
theorem counts : ∀ q, q < 6 → ∀ j, j < q → ∀ t, t ≤ q → ((List.range (2 ^ q)).map fun d => dlF q d j).count t = due q t := by decide +kernel
theorem xor_perm {q s : Nat} (hs : s < 2 ^ q) : ((List.range (2 ^ q)).map (· ^^^ s)).Perm (List.range (2 ^ q)) := by
  refine (List.perm_ext_iff_of_nodup ?_ List.nodup_range).mpr fun x => ?_
  · unfold List.Nodup
    rw [List.pairwise_map]
    exact (List.pairwise_lt_range).imp fun {a b} hab e => by
      have := congrArg (· ^^^ s) e
      have e2 : a = b := by simpa [Nat.xor_assoc] using this
      omega
  · rw [List.mem_map, List.mem_range]
    constructor
    · rintro ⟨y, hy, rfl⟩
      exact Nat.xor_lt_two_pow (List.mem_range.mp hy) hs
    · exact fun hx => ⟨x ^^^ s, List.mem_range.mpr (Nat.xor_lt_two_pow hx hs), by rw [Nat.xor_assoc, Nat.xor_self, Nat.xor_zero]⟩
theorem counts_at {q j s t : Nat} (hq : q < 6) (hj : j < q) (hs : s < 2 ^ q) (ht : t ≤ q) : ((List.range (2 ^ q)).map fun h => dlF q (h ^^^ s) j).count t = due q t := by
  have p := (xor_perm hs).map fun d => dlF q d j
  rw [List.map_map] at p
  rw [← counts q hq j hj t ht]
  exact p.count_eq t
end Bf
namespace Bf
open PySem PySem.Spec PyProof.Rows L2 LamX NdefX
/-! ### how many hands have a letter -/
def ctN (q j l : Nat) : Nat := ((List.range (2 ^ q)).filter fun d => decide (d = 0 ∨ dyF q d j < l)).length
def ctL (q j l : Nat) : Nat := ((List.range (2 ^ q)).filter fun d => decide (d = 0 ∨ farF q d j < l)).length
theorem ctN_is : ∀ q, q < 7 → ∀ j, j < q → ∀ l, l < q + 2 → ctN q j l = (if l = 0 then 1 else if l ≤ q then 2 ^ (l - 1) + 1 else 2 ^ q) := by decide +kernel
theorem ctL_is : ∀ q, q < 7 → ∀ j, j < q → ∀ l, l < q + 1 → ctL q j l = 2 ^ l := by decide +kernel
end Bf
namespace Bf
open PySem PySem.Spec PyProof.Rows L2 LamX NdefX
def g5 {α : Type} (us ws : List α) : List α := match us, ws with
  | [a, b, c, d, e], [f] => [a, b, c, d, e, f]
  | _, _ => []
theorem g5_rel {vs zs : List V} {us ws : List Value} (r1 : Vals vs us) (r2 : Vals zs ws) : Vals (g5 vs zs) (g5 us ws) := by
  match r1, r2 with
  | .nil, _ => exact .nil
  | .cons _ .nil, _ => exact .nil
  | .cons _ (.cons _ .nil), _ => exact .nil
  | .cons _ (.cons _ (.cons _ .nil)), _ => exact .nil
  | .cons _ (.cons _ (.cons _ (.cons _ .nil))), _ => exact .nil
  | .cons _ (.cons _ (.cons _ (.cons _ (.cons _ .nil)))), .nil => exact .nil
  | .cons a (.cons b (.cons c (.cons d (.cons e .nil)))), .cons f .nil => exact .cons a (.cons b (.cons c (.cons d (.cons e (.cons f .nil)))))
  | .cons _ (.cons _ (.cons _ (.cons _ (.cons _ .nil)))), .cons _ (.cons _ _) => exact .nil
  | .cons _ (.cons _ (.cons _ (.cons _ (.cons _ (.cons _ _))))), _ => exact .nil
theorem g5_len {us ws : List Value} (h : (g5 us ws).length = 6) : ∃ a b c d e f, us = [a, b, c, d, e] ∧ ws = [f] := by
  match us, ws, h with
  | [a, b, c, d, e], [f], _ => exact ⟨a, b, c, d, e, f, rfl, rfl⟩
  | [], _, h => cases h
  | [_], _, h => cases h
  | [_, _], _, h => cases h
  | [_, _, _], _, h => cases h
  | [_, _, _, _], _, h => cases h
  | [_, _, _, _, _], [], h => cases h
  | [_, _, _, _, _], _ :: _ :: _, h => cases h
  | _ :: _ :: _ :: _ :: _ :: _ :: _, _, h => cases h
theorem kbS5 {x1 x2 x3 x4 x5 : Str} {K : PySem.W.Frag} {x : Str} {st : Stmt} {f : Addr} {fd : FuncData} (F : FunS K x st f fd) (h : ∀ (kV doc pm : Value) (an : Option Addr) (cdv ct a b c d e g : Value), bindArgs (PySem.W.fnOf x x (defArgs st) (defBody st) (defScope st) .none kV doc pm an cdv ct) ⟨[a, b, c, d, e], [(("source" : Str), g)]⟩ = pure ([(x1, a), (x2, b), (x3, c), (x4, d), (x5, e), ("source", g)] : List (Str × Value))) :
    KBinds K fd [x1, x2, x3, x4, x5, "source"] ["source"] g5 g5 := by
  obtain ⟨oc, od, dV, kV, doc, pm, an, cdv, ct, osl, rfl, lk, hcd, hD, hK⟩ := F.ex
  rcases hD with ⟨_, rfl⟩ | ⟨z, _⟩
  · refine ⟨fun s us ws _ hl => ?_, fun r1 r2 => g5_rel r1 r2⟩
    obtain ⟨a, b, c, d, e, g, rfl, rfl⟩ := g5_len hl
    exact .of_eq (h kV doc pm an cdv ct a b c d e g)
  · exact absurd rfl z
theorem in_nv {L : List Nat} {s : Nat} (h : s ∈ L) : inV (.int (s : Int)) (nv L) = true := by
  unfold inV nv
  rw [List.any_map, List.any_eq_true]
  refine ⟨s, h, ?_⟩
  show ((s : Int) == (s : Int)) = true
  exact beq_self_eq_true _
end Bf
namespace Bf
open PySem PySem.Spec PyProof.Rows L2 LamX NdefX
/-! ### the first beat from one on that crosses a bit of the set -/
def cfF (q d t : Nat) : Nat := t + (ar q (t % q) (((rb q d (t % q)).head?).getD 0)).toNat
theorem cf_spec {q d t : Nat} (hq : 0 < q) (hd : d < 2 ^ q) (h0 : d ≠ 0) : ∃ B, (rb q d (t % q)).head? = some B ∧ (cfF q d t : Int) = t + ar q (t % q) B ∧ B < q ∧ d.testBit B = true ∧ cfF q d t % q = B ∧ t ≤ cfF q d t ∧ cfF q d t < t + q ∧ ∀ u, t ≤ u → d.testBit (u % q) = true → cfF q d t ≤ u := by
  have hne : rb q d (t % q) ≠ [] := fun e => by
    obtain ⟨i, hi⟩ := Nat.exists_testBit_of_ne_zero h0
    have : i ∈ rb q d (t % q) := mem_rb.mpr ⟨lt_of_bit hd hi, hi⟩
    rw [e] at this
    exact absurd this List.not_mem_nil
  obtain ⟨B, l, el⟩ : ∃ B l, rb q d (t % q) = B :: l := by
    cases e : rb q d (t % q) with
    | nil => exact absurd e hne
    | cons B l => exact ⟨B, l, rfl⟩
  have hm : B ∈ rb q d (t % q) := by rw [el]; exact List.mem_cons_self
  obtain ⟨hB, bB⟩ := mem_rb.mp hm
  have a0 := ar_nn (q := q) (j := t % q) (x := B) hq
  have a1 := ar_lt (q := q) (j := t % q) (x := B) hq
  have hk : t % q < q := Nat.mod_lt _ hq
  have ec : cfF q d t = t + (ar q (t % q) B).toNat := by
    unfold cfF
    rw [el]
    rfl
  have em : cfF q d t % q = B := by
    have h2 := arc_to hk hB
    rw [← Int.toNat_of_nonneg a0] at h2
    have h3 : (((t % q + (ar q (t % q) B).toNat) % q : Nat) : Int) = (B : Int) := by rw [Int.natCast_emod, Int.natCast_add]; exact h2
    have := Int.ofNat.inj h3
    rw [Nat.mod_add_mod] at this
    rw [ec]
    exact this
  refine ⟨B, by rw [el]; rfl, by omega, hB, bB, em, by omega, by omega, fun u hu bu => ?_⟩
  obtain ⟨e, rfl⟩ := Nat.exists_eq_add_of_le hu
  by_cases he : e < q
  · have h1 : ar q (t % q) ((t + e) % q) = (e : Int) := ar_add he
    have hx : (t + e) % q ∈ rb q d (t % q) := mem_rb.mpr ⟨Nat.mod_lt _ hq, bu⟩
    have hs := rb_sorted q d (t % q)
    rw [el] at hx hs
    rcases List.mem_cons.mp hx with e1 | e1
    · rw [e1] at h1
      omega
    · have := (List.pairwise_cons.mp hs).1 _ e1
      omega
  · omega
/-- which letters are had -/
theorem has_in {q m d i t : Nat} (hq : 0 < q) (hd : d < 2 ^ q) (h0 : d ≠ 0) (hi : i + 1 < m) : snF q m d i < t ↔ i + q < t ∨ i + q = cfF q d t := by
  obtain ⟨B, _, _, hB, bB, em, c1, c2, c3⟩ := cf_spec (t := t) hq hd h0
  have hj : i % q < q := Nat.mod_lt _ hq
  unfold snF
  rw [if_neg (by omega)]
  unfold dyF
  cases b : d.testBit (i % q) with
  | false =>
    rw [if_neg (by decide)]
    constructor
    · exact fun h => .inl h
    · rintro (h | h)
      · exact h
      · exfalso
        rw [← h, Nat.add_mod_right] at em
        rw [em, bB] at b
        cases b
  | true =>
    rw [if_pos rfl]
    obtain ⟨L, _, e3, bL, hL, top⟩ := far_spec (j := i % q) hq hd h0
    have fl := far_lt (q := q) (d := d) (j := i % q) hq
    have eL : (i + farF q d (i % q)) % q = L := by
      have h2 := arc_to hj hL
      rw [e3] at h2
      have : (((i % q + farF q d (i % q)) % q : Nat) : Int) = (L : Int) := by rw [Int.natCast_emod, Int.natCast_add]; exact h2
      have := Int.ofNat.inj this
      rw [Nat.mod_add_mod] at this
      exact this
    constructor
    · intro h
      by_cases hc : i + q < t
      · exact .inl hc
      · refine .inr ?_
        have h1 := c3 (i + q) (by omega) (by rw [Nat.add_mod_right]; exact b)
        refine Classical.byContradiction fun hne => ?_
        obtain ⟨e, he⟩ := Nat.exists_eq_add_of_le (show i ≤ cfF q d t by omega)
        have h2 : ar q (i % q) ((i + e) % q) = (e : Int) := ar_add (by omega)
        rw [← he, em] at h2
        have := top B bB
        omega
    · rintro (h | h)
      · omega
      · refine Classical.byContradiction fun hc => ?_
        have := c3 (i + farF q d (i % q)) (by omega) (by rw [eL]; exact bL)
        omega
theorem has_last {q m d i t : Nat} (hq : 0 < q) (hd : d < 2 ^ q) (h0 : d ≠ 0) (hi : i + 1 = m) : snF q m d i < t ↔ i + q ≤ cfF q d t := by
  obtain ⟨B, _, _, hB, bB, em, c1, c2, c3⟩ := cf_spec (t := t) hq hd h0
  have hj : i % q < q := Nat.mod_lt _ hq
  unfold snF
  rw [if_pos hi]
  obtain ⟨L, _, e3, bL, hL, top⟩ := far_spec (j := i % q) hq hd h0
  have fl := far_lt (q := q) (d := d) (j := i % q) hq
  have eL : (i + farF q d (i % q)) % q = L := by
    have h2 := arc_to hj hL
    rw [e3] at h2
    have : (((i % q + farF q d (i % q)) % q : Nat) : Int) = (L : Int) := by rw [Int.natCast_emod, Int.natCast_add]; exact h2
    have := Int.ofNat.inj this
    rw [Nat.mod_add_mod] at this
    exact this
  constructor
  · intro h
    refine Classical.byContradiction fun hne => ?_
    obtain ⟨e, he⟩ := Nat.exists_eq_add_of_le (show i ≤ cfF q d t by omega)
    have h2 : ar q (i % q) ((i + e) % q) = (e : Int) := ar_add (by omega)
    rw [← he, em] at h2
    have := top B bB
    omega
  · intro h
    refine Classical.byContradiction fun hc => ?_
    have := c3 (i + farF q d (i % q)) (by omega) (by rw [eL]; exact bL)
    omega
def hdF (q m t : Nat) : Nat := min (t - q) (m - 1)
def myF (q m d t : Nat) : Nat := hdF q m t + (if q ≤ cfF q d t then 1 else 0)
/-- the least letter that lacks -/
def flF (q m d t : Nat) : Nat := hdF q m t + (if q ≤ cfF q d t ∧ min (cfF q d t - q) (m - 1) = hdF q m t then 1 else 0)
theorem has_iff {q m d i t : Nat} (hq : 0 < q) (hd : d < 2 ^ q) (h0 : d ≠ 0) (hi : i < m) : snF q m d i < t ↔ i < hdF q m t ∨ (q ≤ cfF q d t ∧ i = min (cfF q d t - q) (m - 1)) := by
  obtain ⟨B, _, _, hB, bB, em, c1, c2, c3⟩ := cf_spec (t := t) hq hd h0
  unfold hdF
  by_cases e : i + 1 = m
  · rw [has_last hq hd h0 e]
    omega
  · rw [has_in hq hd h0 (by omega)]
    omega
theorem my_count {q m d t : Nat} (hq : 0 < q) (hm : 0 < m) (hd : d < 2 ^ q) (h0 : d ≠ 0) : ((List.range m).filter fun i => decide (snF q m d i < t)).length = myF q m d t := by
  obtain ⟨B, _, _, hB, bB, em, c1, c2, c3⟩ := cf_spec (t := t) hq hd h0
  have hE : (List.range m).filter (fun i => decide (snF q m d i < t)) = List.range (hdF q m t) ++ (if q ≤ cfF q d t then [min (cfF q d t - q) (m - 1)] else []) := by
    refine uniq_sorted (key := fun n : Nat => (n : Int)) (List.Pairwise.filter _ (List.pairwise_lt_range.imp fun {a b} h => by omega)) ?_ fun x => ?_
    · refine List.pairwise_append.mpr ⟨List.pairwise_lt_range.imp fun {a b} h => by omega, ?_, fun a ha b hb => ?_⟩
      · split
        · exact List.pairwise_singleton _ _
        · exact List.Pairwise.nil
      · split at hb
        · have := List.mem_range.mp ha
          rw [List.mem_singleton.mp hb]
          unfold hdF at this
          omega
        · exact absurd hb List.not_mem_nil
    · rw [List.mem_filter, List.mem_range, List.mem_append, List.mem_range]
      have hhd : hdF q m t ≤ m - 1 := by unfold hdF; omega
      constructor
      · rintro ⟨h1, h2⟩
        rcases (has_iff hq hd h0 h1).mp (of_decide_eq_true h2) with h | ⟨h3, h4⟩
        · exact .inl h
        · refine .inr ?_
          rw [if_pos h3]
          exact List.mem_singleton.mpr h4
      · rintro (h | h)
        · exact ⟨by omega, decide_eq_true ((has_iff hq hd h0 (by omega)).mpr (.inl h))⟩
        · split at h
          · rename_i h3
            have h4 := List.mem_singleton.mp h
            exact ⟨by omega, decide_eq_true ((has_iff hq hd h0 (by omega)).mpr (.inr ⟨h3, h4⟩))⟩
          · exact absurd h List.not_mem_nil
  rw [hE, List.length_append, List.length_range]
  unfold myF
  split <;> rfl
theorem fl_lacks {q m d t : Nat} (hq : 0 < q) (hm : 0 < m) (hd : d < 2 ^ q) (h0 : d ≠ 0) : (flF q m d t < m → ¬ snF q m d (flF q m d t) < t) ∧ (∀ i, i < flF q m d t → i < m → snF q m d i < t) ∧ flF q m d t ≤ m := by
  obtain ⟨B, _, _, hB, bB, em, c1, c2, c3⟩ := cf_spec (t := t) hq hd h0
  have hhd : hdF q m t ≤ m - 1 := by unfold hdF; omega
  refine ⟨fun hlt => ?_, fun i hi hm2 => ?_, ?_⟩
  · rw [has_iff hq hd h0 hlt]
    unfold flF
    split
    · rename_i h
      omega
    · rename_i h
      omega
  · rw [has_iff hq hd h0 hm2]
    unfold flF at hi
    split at hi
    · rename_i h
      omega
    · omega
  · unfold flF
    split <;> omega
end Bf
namespace Bf
/-! ### letters of each tree, counted -/
def ctF (q j : Nat) (u : Int) : Nat := ((u - (j : Int)) / (q : Int) + 1).toNat
theorem div_step {q : Nat} (hq : 0 < q) (x : Int) : x / (q : Int) = (x - 1) / (q : Int) + (if x % (q : Int) = 0 then 1 else 0) := by
  have h1 := Int.mul_ediv_add_emod x q
  have h2 := Int.emod_nonneg x (show (q : Int) ≠ 0 by omega)
  have h3 := Int.emod_lt_of_pos x (show (0 : Int) < q by omega)
  by_cases c : x % (q : Int) = 0
  · rw [if_pos c]
    have e : x - 1 = (q : Int) * (x / (q : Int) - 1) + ((q : Int) - 1) := by
      rw [Int.mul_sub, Int.mul_one]
      omega
    have := (Int.ediv_emod_unique (a := x - 1) (b := (q : Int)) (r := (q : Int) - 1) (q := x / (q : Int) - 1) (by omega)).mpr ⟨by omega, by omega, by omega⟩
    omega
  · rw [if_neg c]
    have := (Int.ediv_emod_unique (a := x - 1) (b := (q : Int)) (r := x % (q : Int) - 1) (q := x / (q : Int)) (by omega)).mpr ⟨by omega, by omega, by omega⟩
    omega
theorem ct_zero {q j : Nat} {u : Int} (hq : 0 < q) (h : u < (j : Int)) : ctF q j u = 0 := by
  unfold ctF
  have : (u - (j : Int)) / (q : Int) < 0 := Int.ediv_neg_of_neg_of_pos (by omega) (by omega)
  omega
theorem ct_step {q j n : Nat} (hq : 0 < q) (hj : j < q) : ctF q j (n : Int) = ctF q j ((n : Int) - 1) + (if n % q = j then 1 else 0) := by
  by_cases c : n < j
  · rw [ct_zero hq (by omega), ct_zero hq (by omega), if_neg]
    rw [Nat.mod_eq_of_lt (by omega)]
    omega
  · unfold ctF
    rw [div_step hq ((n : Int) - j), show (n : Int) - 1 - (j : Int) = (n : Int) - j - 1 by omega]
    have h0 : -1 ≤ ((n : Int) - j - 1) / (q : Int) := by
      have : (-1 : Int) / (q : Int) ≤ ((n : Int) - j - 1) / (q : Int) := Int.ediv_le_ediv (by omega) (by omega)
      have e : (-1 : Int) / (q : Int) = -1 := by
        have := (Int.ediv_emod_unique (a := (-1 : Int)) (b := (q : Int)) (r := (q : Int) - 1) (q := -1) (by omega)).mpr ⟨by omega, by omega, by omega⟩
        exact this.1
      omega
    have e1 : ((n : Int) - j) % (q : Int) = 0 ↔ n % q = j := by
      have e2 : ((n : Int) - j) = ((n - j : Nat) : Int) := by omega
      rw [e2, ← Int.natCast_emod]
      constructor
      · intro h
        have h : (n - j) % q = 0 := by omega
        have e3 : n = j + (n - j) := by omega
        rw [e3, Nat.add_mod, h, Nat.add_zero, Nat.mod_mod, Nat.mod_eq_of_lt hj]
      · intro h
        have h1 := Nat.div_add_mod n q
        have e3 : n - j = q * (n / q) := by omega
        rw [e3, Nat.mul_mod_right]
        rfl
    by_cases c2 : n % q = j
    · rw [if_pos c2, if_pos (e1.mpr c2)]
      omega
    · rw [if_neg c2, if_neg (fun z => c2 (e1.mp z))]
      omega
/-- of tree j, of the letters below n -/
def caF (q d t j n : Nat) : Nat := ctF q j (min ((n : Int) - 1) ((t : Int) - 1 - (dyF q d j : Nat)))
theorem ca_step {q d t j n : Nat} (hq : 0 < q) (hj : j < q) : caF q d t j (n + 1) = caF q d t j n + (if n % q = j ∧ n + dyF q d j < t then 1 else 0) := by
  unfold caF
  by_cases c : n + dyF q d j < t
  · rw [show min (((n + 1 : Nat) : Int) - 1) ((t : Int) - 1 - (dyF q d j : Nat)) = (n : Int) by omega, show min ((n : Int) - 1) ((t : Int) - 1 - (dyF q d j : Nat)) = (n : Int) - 1 by omega, ct_step hq hj]
    by_cases c2 : n % q = j
    · rw [if_pos c2, if_pos ⟨c2, c⟩]
    · rw [if_neg c2, if_neg (fun z => c2 z.1)]
  · rw [if_neg (fun z => c z.2), show min (((n + 1 : Nat) : Int) - 1) ((t : Int) - 1 - (dyF q d j : Nat)) = (t : Int) - 1 - (dyF q d j : Nat) by omega, show min ((n : Int) - 1) ((t : Int) - 1 - (dyF q d j : Nat)) = (t : Int) - 1 - (dyF q d j : Nat) by omega]
    rfl
/-- of the first r trees -/
def suF (q d t n : Nat) : Nat → Nat
  | 0 => 0
  | r + 1 => suF q d t n r + caF q d t r n
theorem su_step {q d t n : Nat} (hq : 0 < q) : ∀ r, r ≤ q → suF q d t (n + 1) r = suF q d t n r + (if n % q < r ∧ n + dyF q d (n % q) < t then 1 else 0)
  | 0, _ => by
    rw [if_neg (fun z => absurd z.1 (Nat.not_lt_zero _))]
    rfl
  | r + 1, h => by
    show suF q d t (n + 1) r + caF q d t r (n + 1) = suF q d t n r + caF q d t r n + _
    rw [su_step hq r (by omega), ca_step hq (by omega)]
    by_cases c : n % q = r
    · subst c
      by_cases c2 : n + dyF q d (n % q) < t
      · rw [if_neg (by omega), if_pos ⟨rfl, c2⟩, if_pos ⟨by omega, c2⟩]
        omega
      · rw [if_neg (fun z => c2 z.2), if_neg (fun z => c2 z.2), if_neg (fun z => c2 z.2)]
        omega
    · rw [if_neg (fun (z : n % q = r ∧ _) => c z.1)]
      by_cases c2 : n % q < r ∧ n + dyF q d (n % q) < t
      · rw [if_pos c2, if_pos ⟨by omega, c2.2⟩]
        omega
      · rw [if_neg c2, if_neg (fun z => c2 ⟨by omega, z.2⟩)]
        omega
theorem su_zero {q d t : Nat} (hq : 0 < q) : ∀ r, suF q d t 0 r = 0
  | 0 => rfl
  | r + 1 => by
    show suF q d t 0 r + caF q d t r 0 = 0
    rw [su_zero hq r]
    unfold caF
    rw [ct_zero hq (by omega)]
theorem su_count {q m d t : Nat} (hq : 0 < q) : ∀ n, n + 1 ≤ m → suF q d t n q = ((List.range n).filter fun i => decide (snF q m d i < t)).length
  | 0, _ => su_zero hq q
  | n + 1, h => by
    rw [su_step hq q (Nat.le_refl q), su_count (m := m) hq n (by omega), List.range_succ, List.filter_append, List.length_append]
    have hs : snF q m d n = n + dyF q d (n % q) := by
      unfold snF
      rw [if_neg (by omega)]
    have hn := Nat.mod_lt n hq
    by_cases c : snF q m d n < t
    · rw [if_pos ⟨hn, by omega⟩]
      simp [c]
    · rw [if_neg (fun z => c (by omega))]
      simp [c]
theorem su_my {q m d t : Nat} (hq : 0 < q) (hm : 0 < m) (hd : d < 2 ^ q) (h0 : d ≠ 0) : suF q d t (m - 1) q + (if snF q m d (m - 1) < t then 1 else 0) = myF q m d t := by
  rw [← my_count hq hm hd h0, su_count (m := m) hq (m - 1) (by omega)]
  obtain ⟨n, rfl⟩ : ∃ n, m = n + 1 := ⟨m - 1, by omega⟩
  rw [show n + 1 - 1 = n by omega, List.range_succ, List.filter_append, List.length_append]
  by_cases c : snF q (n + 1) d n < t
  · simp [c]
  · simp [c]
theorem ca_int {q d t j m : Nat} (hm : 0 < m) : (if ((if ((t : Int) - 1 - (dyF q d j : Nat)) < ((m : Int) - 2) then ((t : Int) - 1 - (dyF q d j : Nat)) else ((m : Int) - 2)) - (j : Int)) / (q : Int) + 1 > 0 then ((if ((t : Int) - 1 - (dyF q d j : Nat)) < ((m : Int) - 2) then ((t : Int) - 1 - (dyF q d j : Nat)) else ((m : Int) - 2)) - (j : Int)) / (q : Int) + 1 else 0) = ((caF q d t j (m - 1) : Nat) : Int) := by
  have e : (if ((t : Int) - 1 - (dyF q d j : Nat)) < ((m : Int) - 2) then ((t : Int) - 1 - (dyF q d j : Nat)) else ((m : Int) - 2)) = min (((m - 1 : Nat) : Int) - 1) ((t : Int) - 1 - (dyF q d j : Nat)) := by
    split <;> omega
  rw [e]
  unfold caF ctF
  generalize (min (((m - 1 : Nat) : Int) - 1) ((t : Int) - 1 - (dyF q d j : Nat)) - (j : Int)) / (q : Int) = z
  split <;> omega
theorem my_le {q m d t : Nat} (hm : 0 < m) : myF q m d t ≤ m := by
  unfold myF hdF
  split <;> omega
end Bf
namespace Bf
open PySem PySem.Spec PyProof.Rows L2 LamX NdefX
/-! ### all by names, in any order -/
def gP {α : Type} (π : List Nat) (us ws : List α) : List α := match us with
  | [] => if ws.length = π.length then π.filterMap (fun i => ws[i]?) else []
  | _ :: _ => []
theorem vals_get {zs : List V} {ws : List Value} (r : Vals zs ws) : ∀ i : Nat, (zs[i]? = none ∧ ws[i]? = none) ∨ ∃ z w, zs[i]? = some z ∧ ws[i]? = some w ∧ RelV z w := by
  induction r with
  | nil => exact fun i => .inl ⟨by simp, by simp⟩
  | cons a r ih =>
    intro i
    cases i with
    | zero => exact .inr ⟨_, _, rfl, rfl, a⟩
    | succ i => simpa using ih i
theorem gP_pick {zs : List V} {ws : List Value} (r : Vals zs ws) : ∀ π : List Nat, Vals (π.filterMap (fun i => zs[i]?)) (π.filterMap (fun i => ws[i]?))
  | [] => .nil
  | i :: π => by
    have ih := gP_pick r π
    rcases vals_get r i with ⟨e1, e2⟩ | ⟨z, w, e1, e2, rz⟩
    · rw [List.filterMap_cons_none e1, List.filterMap_cons_none e2]
      exact ih
    · rw [List.filterMap_cons_some e1, List.filterMap_cons_some e2]
      exact .cons rz ih
theorem gP_rel {π : List Nat} {vs zs : List V} {us ws : List Value} (r1 : Vals vs us) (r2 : Vals zs ws) : Vals (gP π vs zs) (gP π us ws) := by
  cases r1 with
  | nil =>
    show Vals (if zs.length = π.length then _ else []) (if ws.length = π.length then _ else [])
    rw [r2.length]
    by_cases e : ws.length = π.length
    · rw [if_pos e, if_pos e]
      exact gP_pick r2 π
    · rw [if_neg e, if_neg e]
      exact .nil
  | cons _ _ => exact .nil
theorem gP_len {π : List Nat} {us ws : List Value} {n : Nat} (hn : 0 < n) (h : (gP π us ws).length = n) : us = [] ∧ ws.length = π.length := by
  cases us with
  | nil =>
    refine ⟨rfl, Classical.byContradiction fun e => ?_⟩
    have : (if ws.length = π.length then π.filterMap (fun i => ws[i]?) else []).length = n := h
    rw [if_neg e] at this
    have : 0 = n := this
    omega
  | cons _ _ =>
    have : 0 = n := h
    omega
theorem kbP {π : List Nat} {ps ks : List Str} {K : PySem.W.Frag} {x : Str} {st : Stmt} {f : Addr} {fd : FuncData} (F : FunS K x st f fd) (hp : 0 < ps.length)
    (h : ∀ (kV doc pm : Value) (an : Option Addr) (cdv ct : Value) (ws : List Value), ws.length = π.length → bindArgs (PySem.W.fnOf x x (defArgs st) (defBody st) (defScope st) .none kV doc pm an cdv ct) ⟨[], ks.zip ws⟩ = pure (ps.zip (gP π [] ws))) :
    KBinds K fd ps ks (gP π) (gP π) := by
  obtain ⟨oc, od, dV, kV, doc, pm, an, cdv, ct, osl, rfl, lk, hcd, hD, hK⟩ := F.ex
  rcases hD with ⟨_, rfl⟩ | ⟨z, _⟩
  · refine ⟨fun s us ws _ hl => ?_, fun r1 r2 => gP_rel r1 r2⟩
    obtain ⟨rfl, hw⟩ := gP_len hp hl
    exact .of_eq (h kV doc pm an cdv ct ws hw)
  · exact absurd rfl z
theorem kbQ {π : List Nat} {ps ks : List Str} {K : PySem.W.Frag} {x : Str} {st : Stmt} {f : Addr} {fd : FuncData} (F : Fun K x x st f fd) (hp : 0 < ps.length)
    (h : ∀ (kV doc pm : Value) (an : Option Addr) (cdv ct : Value) (ws : List Value), ws.length = π.length → bindArgs (PySem.W.fnOf x x (defArgs st) (defBody st) (defScope st) .none kV doc pm an cdv ct) ⟨[], ks.zip ws⟩ = pure (ps.zip (gP π [] ws))) :
    KBinds K fd ps ks (gP π) (gP π) := by
  obtain ⟨oc, od, kV, doc, pm, an, cdv, ct, osl, rfl, lk, hcd⟩ := F.ex
  refine ⟨fun s us ws _ hl => ?_, fun r1 r2 => gP_rel r1 r2⟩
  obtain ⟨rfl, hw⟩ := gP_len hp hl
  exact .of_eq (h kV doc pm an cdv ct ws hw)
/-! ### data of some kinds in a list -/
structure Okd (d : PyData) : Prop where
  sh : d.showable = true
  di : d.hasDict = false
  de : d.depth ≤ 2
  lv : d.leavesShort 64 = true
  we : d.weight ≤ 200
theorem okd_none : Okd .none := ⟨rfl, rfl, by decide, rfl, by decide⟩
theorem okd_bool (b : Bool) : Okd (.bool b) := by cases b <;> exact ⟨rfl, rfl, by decide, rfl, by decide⟩
theorem okd_tup {ns : List Nat} (h : ∀ n ∈ ns, n < 2 ^ 61) (hl : ns.length ≤ 3) : Okd (.tuple (nd' ns)) := by
  refine ⟨nd_show _ h, nd_dict _, nd_dep _, nd_leaves _ h, ?_⟩
  have h2 : PyData.weight (.tuple (nd' ns)) ≤ 63 * ns.length := nd_weight ns h
  omega
theorem okd_int {n : Nat} (h : n < 2 ^ 61) : Okd (.int (n : Int)) := by
  have h1 : ∀ x ∈ [n], x < 2 ^ 61 := fun x hx => by rw [List.mem_singleton.mp hx]; exact h
  have a1 : (PyData.showable (.int (n : Int)) && PyData.showableAll []) = true := nd_show [n] h1
  have a2 : (PyData.leavesShort 64 (.int (n : Int)) && PyData.leavesShortAll 64 []) = true := nd_leaves [n] h1
  have a3 : PyData.weight (.int (n : Int)) + 1 + PyData.weightAll [] ≤ 63 * 1 := nd_weight [n] h1
  exact ⟨(Bool.and_eq_true _ _ ▸ a1).1, rfl, Nat.le_trans (by show PyData.depth (.int _) ≤ 1; simp [PyData.depth]) (by decide), (Bool.and_eq_true _ _ ▸ a2).1, by omega⟩
theorem okd_all : ∀ ds : List PyData, (∀ d ∈ ds, Okd d) → PyData.showableAll ds = true ∧ PyData.hasDictAll ds = false ∧ PyData.depthAll ds ≤ 2 ∧ PyData.leavesShortAll 64 ds = true ∧ PyData.weightAll ds ≤ 201 * ds.length
  | [], _ => ⟨rfl, rfl, by simp [PyData.depthAll], rfl, Nat.le_refl _⟩
  | d :: ds, h => by
    obtain ⟨a1, a2, a3, a4, a5⟩ := okd_all ds fun x hx => h x (List.mem_cons_of_mem _ hx)
    have o := h d List.mem_cons_self
    refine ⟨?_, ?_, ?_, ?_, ?_⟩
    · show (PyData.showable d && PyData.showableAll ds) = true
      rw [o.sh, a1]
      rfl
    · show (PyData.hasDict d || PyData.hasDictAll ds) = false
      rw [o.di, a2]
      rfl
    · show max (PyData.depth d) (PyData.depthAll ds) ≤ 2
      have := o.de
      omega
    · show (PyData.leavesShort 64 d && PyData.leavesShortAll 64 ds) = true
      rw [o.lv, a4]
      rfl
    · show PyData.weight d + 1 + PyData.weightAll ds ≤ 201 * (ds.length + 1)
      have := o.we
      omega
theorem okd_list {ds : List PyData} (h : ∀ d ∈ ds, Okd d) (hl : ds.length ≤ 100) : (PyData.list ds).showable = true ∧ (PyData.list ds).hasDict = false ∧ (PyData.list ds).depth < 60 ∧ (PyData.list ds).shown.length ≤ sizeLine := by
  obtain ⟨a1, a2, a3, a4, a5⟩ := okd_all ds h
  refine ⟨a1, a2, ?_, ?_⟩
  · show PyData.depthAll ds + 1 < 60
    omega
  · have h1 := PyData.shown_le 64 (by decide) (.list ds) a4
    have h2 : PyData.weight (.list ds) ≤ 201 * ds.length := a5
    rw [sizeLine_eq]
    have h3 : (64 + 2) * PyData.weight (.list ds) ≤ 66 * (201 * 100) := Nat.mul_le_mul (by decide) (by omega)
    omega
/-- what stands for itself -/
def vD : V → PyData
  | .non => .none
  | .bl b => .bool b
  | .int i => .int i
  | _ => .none
def Imm (v : V) : Prop := v = .non ∨ (∃ b, v = .bl b) ∨ ∃ n : Nat, n < 2 ^ 61 ∧ v = .int (n : Int)
theorem Imm.dp {K : PySem.W.Frag} {H : Hp} {v : V} (h : Imm v) : Dp K H v (vD v) := by
  rcases h with rfl | ⟨b, rfl⟩ | ⟨n, _, rfl⟩
  · exact .non
  · exact .bl b
  · exact .int _
theorem Imm.ok {v : V} (h : Imm v) : Okd (vD v) := by
  rcases h with rfl | ⟨b, rfl⟩ | ⟨n, hn, rfl⟩
  · exact okd_none
  · exact okd_bool b
  · exact okd_int hn
theorem imm_int {n : Nat} (h : n < 2 ^ 61) : Imm (.int (n : Int)) := .inr (.inr ⟨n, h, rfl⟩)
theorem imm_bl (b : Bool) : Imm (.bl b) := .inr (.inl ⟨b, rfl⟩)
theorem imm_if {c : Prop} [Decidable c] {a b : V} (ha : Imm a) (hb : Imm b) : Imm (if c then a else b) := by
  split
  · exact ha
  · exact hb
/-- a pair or nothing -/
def PrO (H : Hp) (v : V) (o : Option (Nat × Nat)) : Prop := match o with
  | none => v = .non
  | some ab => ∃ p, v = .ref p ∧ H p = some (.tup (nv [ab.1, ab.2]))
def oD : Option (Nat × Nat) → PyData
  | none => .none
  | some ab => .tuple (nd' [ab.1, ab.2])
theorem PrO.ext {H H' : Hp} {v : V} {o : Option (Nat × Nat)} (h : PrO H v o) (x : ExtN H H') : PrO H' v o := by
  cases o with
  | none => exact h
  | some ab =>
    obtain ⟨p, e, hp⟩ := h
    exact ⟨p, e, x _ _ hp (fun ps z => nomatch z)⟩
theorem PrO.upd' {H : Hp} {L : Addr} {l l' : List V} {v : V} {o : Option (Nat × Nat)} (h : PrO H v o) (eL : H L = some (.lst l)) : PrO (upd H L (.lst l')) v o := by
  cases o with
  | none => exact h
  | some ab =>
    obtain ⟨p, e, hp⟩ := h
    refine ⟨p, e, ?_⟩
    rw [upd_ne (fun z => by rw [z, eL] at hp; cases hp)]
    exact hp
theorem PrO.dp {K : PySem.W.Frag} {H : Hp} {v : V} {o : Option (Nat × Nat)} (h : PrO H v o) : Dp K H v (oD o) := by
  cases o with
  | none =>
    have h : v = .non := h
    subst h
    exact .non
  | some ab =>
    obtain ⟨p, rfl, hp⟩ := h
    exact .tup (.inl (.inl hp)) (dp_nv _)
theorem oD_ok {o : Option (Nat × Nat)} (h : ∀ ab, o = some ab → ab.1 < 2 ^ 61 ∧ ab.2 < 2 ^ 61) : Okd (oD o) := by
  cases o with
  | none => exact okd_none
  | some ab =>
    obtain ⟨h1, h2⟩ := h ab rfl
    refine okd_tup (fun n hn => ?_) (by show 2 ≤ 3; decide)
    rcases List.mem_cons.mp hn with rfl | hn
    · exact h1
    · rw [List.mem_singleton.mp hn]
      exact h2
def hdO (q m s h t : Nat) : Option (Nat × Nat) := (duF q m (h ^^^ s) t).map fun l => (h ^^^ 2 ^ (t % q), l)
def tdO (q m s h t : Nat) : Option (Nat × Nat) := (duF q m (h ^^^ 2 ^ (t % q) ^^^ s) t).map fun l => (h ^^^ 2 ^ (t % q), l)
theorem du_none {q m d t : Nat} (c : t < ltF q d (t % q)) : duF q m d t = none := by
  unfold duF
  rw [if_pos c]
theorem du_some {q m d t : Nat} (c : ¬ t < ltF q d (t % q)) : duF q m d t = some (min (t - ltF q d (t % q)) (m - 1)) := by
  unfold duF
  rw [if_neg c]
theorem du_lt {q m d t l : Nat} (hm : 0 < m) (h : duF q m d t = some l) : l < m := by
  unfold duF at h
  by_cases c : t < ltF q d (t % q)
  · rw [if_pos c] at h
    cases h
  · rw [if_neg c] at h
    have := Option.some.inj h
    omega
theorem pair_small {q m d h t : Nat} (hq : 0 < q) (hq6 : q ≤ 60) (hm : 0 < m) (hm2 : m ≤ 1000000000000000000) (hh : h < 2 ^ q) (ab : Nat × Nat) (e : (duF q m d t).map (fun l => (h ^^^ 2 ^ (t % q), l)) = some ab) : ab.1 < 2 ^ 61 ∧ ab.2 < 2 ^ 61 := by
  cases z : duF q m d t with
  | none => rw [z] at e; cases e
  | some l =>
    rw [z] at e
    have e : (h ^^^ 2 ^ (t % q), l) = ab := Option.some.inj e
    subst e
    have := du_lt hm z
    refine ⟨?_, by show l < 2 ^ 61; omega⟩
    exact Nat.lt_of_lt_of_le (Nat.xor_lt_two_pow hh (Nat.pow_lt_pow_right (by decide) (Nat.mod_lt _ hq))) (Nat.pow_le_pow_right (by decide) (by omega))
end Bf
namespace Bf
open PySem PySem.Spec PyProof.Rows L2 LamX NdefX
def PotC (H : Hp) (a : Addr) (n : Nat) : Prop := ∃ x y z : Int, H a = some (.lst [.int x, .int y, .int z]) ∧ 0 ≤ x ∧ 0 ≤ y ∧ y < 4611686018427387904 ∧ 0 ≤ z ∧ z ≤ n
theorem PotC.up {H : Hp} {a : Addr} {n m : Nat} (h : PotC H a n) (l : n ≤ m) : PotC H a m := let ⟨x, y, z, h1, h2, h3, h4, h5, h6⟩ := h; ⟨x, y, z, h1, h2, h3, h4, h5, by omega⟩
theorem PotC.new {H : Hp} {a p : Addr} {n : Nat} {o : HO} (h : PotC H a n) (hp : H p = none) : PotC (upd H p o) a n := let ⟨x, y, z, h1, h2⟩ := h; ⟨x, y, z, by rw [upd_ne (ne_of_none h1 hp)]; exact h1, h2⟩
theorem PotC.same {H H' : Hp} {a : Addr} {n : Nat} (h : PotC H a n) (s : Same H H') : PotC H' a n := let ⟨x, y, z, h1, h2⟩ := h; ⟨x, y, z, s _ _ h1, h2⟩

theorem PotC.ext {H H' : Hp} {a : Addr} {n : Nat} (h : PotC H a n) (s : ExtN H H') : PotC H' a n := let ⟨x, y, z, h1, h2⟩ := h; ⟨x, y, z, s _ _ h1 (fun ps z => nomatch z), h2⟩
theorem tabs_keepsC {T : List (Addr × Str)} {H H' : Hp} {a : Addr} {m : Nat} (p : PotC H a m) (t : Tabs T H) (k : Keeps a H H') : Tabs T H' := fun q hq => by
  obtain ⟨x, y, z, hH, _⟩ := p
  obtain ⟨ps, h1, h2, h3⟩ := t q hq
  refine ⟨ps, k _ _ (fun e => ?_) h1, h2, fun pos cv hc => ?_⟩
  · rw [e, hH] at h1
    cases h1
  · obtain ⟨c, e1, e2⟩ := h3 pos cv hc
    refine ⟨c, e1, k _ _ (fun e => ?_) e2⟩
    rw [e, hH] at e2
    unfold CodeO at e2
    cases e2
theorem potC_ne {H : Hp} {p u : Addr} {m : Nat} (h : PotC H p m) (n : H u = none) : u ≠ p := fun e => by
  obtain ⟨x, y, z, hH, _⟩ := h
  rw [e, hH] at n
  cases n
end Bf
namespace Bf
open PySem PySem.Spec PyProof.Rows L2 LamX NdefX
/-! ### tellings -/
def trip (q m s t h : Nat) : Option (Nat × Nat × Nat) := (duF q m (h ^^^ 2 ^ (t % q) ^^^ s) t).map fun l => (h, h ^^^ 2 ^ (t % q), l)
def trL (q m s t n : Nat) : List (Nat × Nat × Nat) := (List.range n).filterMap (trip q m s t)
theorem trL_none {q m s t n : Nat} (h : duF q m (n ^^^ 2 ^ (t % q) ^^^ s) t = none) : trL q m s t (n + 1) = trL q m s t n := by
  unfold trL
  rw [List.range_succ, List.filterMap_append]
  simp [trip, h]
theorem trL_some {q m s t n l : Nat} (h : duF q m (n ^^^ 2 ^ (t % q) ^^^ s) t = some l) : trL q m s t (n + 1) = trL q m s t n ++ [(n, n ^^^ 2 ^ (t % q), l)] := by
  unfold trL
  rw [List.range_succ, List.filterMap_append]
  simp [trip, h]
theorem trL_len (q m s t n : Nat) : (trL q m s t n).length ≤ n := by
  unfold trL
  have := List.length_filterMap_le (trip q m s t) (List.range n)
  rw [List.length_range] at this
  exact this
theorem trL_small {q m s t : Nat} (hq : 0 < q) (hq6 : q ≤ 6) (hm : 0 < m) (hm6 : m ≤ 60) : ∀ x ∈ trL q m s t (2 ^ q), x.1 < 128 ∧ x.2.1 < 128 ∧ x.2.2 < 128 := by
  intro x hx
  unfold trL at hx
  obtain ⟨h, hh, e⟩ := List.mem_filterMap.mp hx
  have hh := List.mem_range.mp hh
  have hz : 2 ^ q ≤ 2 ^ 6 := Nat.pow_le_pow_right (by decide) hq6
  have h2 := Nat.xor_lt_two_pow hh (Nat.pow_lt_pow_right (a := 2) (by decide) (Nat.mod_lt t hq))
  unfold trip at e
  cases z : duF q m (h ^^^ 2 ^ (t % q) ^^^ s) t with
  | none => rw [z] at e; cases e
  | some l =>
    rw [z] at e
    have e : (h, h ^^^ 2 ^ (t % q), l) = x := Option.some.inj e
    have := du_lt hm z
    subst e
    refine ⟨by show h < 128; omega, by show h ^^^ 2 ^ (t % q) < 128; omega, by show l < 128; omega⟩
abbrev Trip := Nat × Nat × Nat
def bD (x : Trip) : PyData := .tuple (nd' [x.1, x.2.1, x.2.2])
def tsL (q m s n : Nat) : List (List Trip) := (List.range n).map fun t => trL q m s t (2 ^ q)
theorem tsL_succ (q m s n : Nat) : tsL q m s (n + 1) = tsL q m s n ++ [trL q m s n (2 ^ q)] := by
  unfold tsL
  rw [List.range_succ, List.map_append]
  rfl
def KTu (H H' : Hp) : Prop := ∀ p ns, H p = some (.tup ns) → H' p = some (.tup ns)
theorem ktu_ext {H H' : Hp} (x : ExtN H H') : KTu H H' := fun p ns h => x _ _ h (fun ps z => nomatch z)
theorem ktu_lst {H : Hp} {L : Addr} {l l' : List V} (e : H L = some (.lst l)) : KTu H (upd H L (.lst l')) := fun p ns h => by
  rw [upd_ne (fun z => by rw [z, e] at h; cases h)]
  exact h
theorem KTu.trans {A B C : Hp} (x : KTu A B) (y : KTu B C) : KTu A C := fun p ns h => y p ns (x p ns h)
def TrA (H : Hp) : List V → List Trip → Prop
  | [], [] => True
  | v :: vs, x :: xs => (∃ p, v = .ref p ∧ H p = some (.tup (nv [x.1, x.2.1, x.2.2]))) ∧ TrA H vs xs
  | _, _ => False
theorem TrA.mono {H H' : Hp} (k : KTu H H') : ∀ {vs : List V} {xs : List Trip}, TrA H vs xs → TrA H' vs xs
  | [], [], _ => trivial
  | v :: vs, x :: xs, ⟨⟨p, e, h⟩, r⟩ => ⟨⟨p, e, k _ _ h⟩, TrA.mono k r⟩
  | [], _ :: _, h => h.elim
  | _ :: _, [], h => h.elim
theorem TrA.snoc {H : Hp} {v : V} {x : Trip} (hv : ∃ p, v = .ref p ∧ H p = some (.tup (nv [x.1, x.2.1, x.2.2]))) : ∀ {vs : List V} {xs : List Trip}, TrA H vs xs → TrA H (vs ++ [v]) (xs ++ [x])
  | [], [], _ => ⟨hv, trivial⟩
  | _ :: _, _ :: _, ⟨h, r⟩ => ⟨h, TrA.snoc hv r⟩
  | [], _ :: _, h => h.elim
  | _ :: _, [], h => h.elim
theorem TrA.len {H : Hp} : ∀ {vs : List V} {xs : List Trip}, TrA H vs xs → vs.length = xs.length
  | [], [], _ => rfl
  | _ :: _, _ :: _, ⟨_, r⟩ => by rw [List.length_cons, List.length_cons, r.len]
  | [], _ :: _, h => h.elim
  | _ :: _, [], h => h.elim
theorem TrA.dp {K : PySem.W.Frag} {H : Hp} : ∀ {vs : List V} {xs : List Trip}, TrA H vs xs → DpAll K H vs (xs.map bD)
  | [], [], _ => .nil
  | _ :: _, x :: _, ⟨⟨p, e, h⟩, r⟩ => by subst e; exact .cons (dp_tup (ns := [x.1, x.2.1, x.2.2]) (.inl (.inl h))) r.dp
  | [], _ :: _, h => h.elim
  | _ :: _, [], h => h.elim
def BtA (H : Hp) : List V → List (List Trip) → Prop
  | [], [] => True
  | v :: vs, x :: xs => (∃ p us, v = .ref p ∧ H p = some (.tup us) ∧ TrA H us x) ∧ BtA H vs xs
  | _, _ => False
theorem BtA.mono {H H' : Hp} (k : KTu H H') : ∀ {vs : List V} {xs : List (List Trip)}, BtA H vs xs → BtA H' vs xs
  | [], [], _ => trivial
  | v :: vs, x :: xs, ⟨⟨p, us, e, h, t⟩, r⟩ => ⟨⟨p, us, e, k _ _ h, t.mono k⟩, BtA.mono k r⟩
  | [], _ :: _, h => h.elim
  | _ :: _, [], h => h.elim
theorem BtA.snoc {H : Hp} {v : V} {x : List Trip} (hv : ∃ p us, v = .ref p ∧ H p = some (.tup us) ∧ TrA H us x) : ∀ {vs : List V} {xs : List (List Trip)}, BtA H vs xs → BtA H (vs ++ [v]) (xs ++ [x])
  | [], [], _ => ⟨hv, trivial⟩
  | _ :: _, _ :: _, ⟨h, r⟩ => ⟨h, BtA.snoc hv r⟩
  | [], _ :: _, h => h.elim
  | _ :: _, [], h => h.elim
theorem BtA.len {H : Hp} : ∀ {vs : List V} {xs : List (List Trip)}, BtA H vs xs → vs.length = xs.length
  | [], [], _ => rfl
  | _ :: _, _ :: _, ⟨_, r⟩ => by rw [List.length_cons, List.length_cons, r.len]
  | [], _ :: _, h => h.elim
  | _ :: _, [], h => h.elim
def pD (ts : List Trip) : PyData := .tuple (ts.map bD)
theorem BtA.dp {K : PySem.W.Frag} {H : Hp} : ∀ {vs : List V} {xs : List (List Trip)}, BtA H vs xs → DpAll K H vs (xs.map pD)
  | [], [], _ => .nil
  | _ :: _, x :: _, ⟨⟨p, us, e, h, t⟩, r⟩ => by subst e; exact .cons (.tup (.inl (.inl h)) t.dp) r.dp
  | [], _ :: _, h => h.elim
  | _ :: _, [], h => h.elim
/-! ### how they are shown -/
theorem nd_weight7 : ∀ ns : List Nat, (∀ n ∈ ns, n < 128) → PyData.weightAll (nd' ns) ≤ 8 * ns.length
  | [], _ => Nat.le_refl _
  | n :: ns, h => by
    have h1 : n < 2 ^ 7 := h n List.mem_cons_self
    have ih := nd_weight7 ns fun m hm => h m (List.mem_cons_of_mem _ hm)
    have e : PyData.weight (.int (n : Int)) ≤ 7 := by
      simp only [PyData.weight]
      by_cases z : n = 0
      · subst z; decide
      · have := (Nat.log2_lt z).mpr h1
        rw [if_neg (by simpa using z)]
        simp
        omega
    show PyData.weight (.int (n : Int)) + 1 + PyData.weightAll (nd' ns) ≤ 8 * (ns.length + 1)
    omega
structure Ok2 (d : PyData) (W D : Nat) : Prop where
  sh : d.showable = true
  di : d.hasDict = false
  de : d.depth ≤ D
  lv : d.leavesShort 64 = true
  we : d.weight ≤ W
  ca : d.canLay0 = true
theorem ok2_all {W D : Nat} : ∀ ds : List PyData, (∀ d ∈ ds, Ok2 d W D) → PyData.showableAll ds = true ∧ PyData.hasDictAll ds = false ∧ PyData.depthAll ds ≤ D ∧ PyData.leavesShortAll 64 ds = true ∧ PyData.weightAll ds ≤ (W + 1) * ds.length ∧ PyData.canLayAll0 ds = true
  | [], _ => ⟨rfl, rfl, Nat.zero_le _, rfl, Nat.le_refl _, rfl⟩
  | d :: ds, h => by
    obtain ⟨a1, a2, a3, a4, a5, a6⟩ := ok2_all ds fun x hx => h x (List.mem_cons_of_mem _ hx)
    have o := h d List.mem_cons_self
    refine ⟨?_, ?_, ?_, ?_, ?_, ?_⟩
    · show (PyData.showable d && PyData.showableAll ds) = true
      rw [o.sh, a1]
      rfl
    · show (PyData.hasDict d || PyData.hasDictAll ds) = false
      rw [o.di, a2]
      rfl
    · show max (PyData.depth d) (PyData.depthAll ds) ≤ D
      have := o.de
      omega
    · show (PyData.leavesShort 64 d && PyData.leavesShortAll 64 ds) = true
      rw [o.lv, a4]
      rfl
    · show PyData.weight d + 1 + PyData.weightAll ds ≤ (W + 1) * (ds.length + 1)
      have := o.we
      rw [Nat.mul_add, Nat.mul_one]
      omega
    · show (PyData.canLay0 d && PyData.canLayAll0 ds) = true
      rw [o.ca, a6]
      rfl
theorem ok2_bD {x : Trip} (h : x.1 < 128 ∧ x.2.1 < 128 ∧ x.2.2 < 128) : Ok2 (bD x) 24 2 := by
  have hl : ∀ n ∈ [x.1, x.2.1, x.2.2], n < 128 := fun n hn => by
    simp only [List.mem_cons, List.not_mem_nil, or_false] at hn
    rcases hn with rfl | rfl | rfl
    · exact h.1
    · exact h.2.1
    · exact h.2.2
  have hl2 : ∀ n ∈ [x.1, x.2.1, x.2.2], n < 2 ^ 61 := fun n hn => Nat.lt_trans (hl n hn) (by decide)
  exact ⟨nd_show _ hl2, nd_dict _, nd_dep _, nd_leaves _ hl2, nd_weight7 _ hl, nd_canAll _⟩
theorem ok2_tup {ds : List PyData} {W D n : Nat} (h : ∀ d ∈ ds, Ok2 d W D) (hn : ds.length ≤ n) : Ok2 (.tuple ds) ((W + 1) * n) (D + 1) := by
  obtain ⟨a1, a2, a3, a4, a5, a6⟩ := ok2_all ds h
  refine ⟨a1, a2, ?_, a4, ?_, a6⟩
  · show PyData.depthAll ds + 1 ≤ D + 1
    omega
  · show PyData.weightAll ds ≤ (W + 1) * n
    exact Nat.le_trans a5 (Nat.mul_le_mul_left _ hn)
theorem plan_ok {q m s : Nat} (hq : 0 < q) (hq6 : q ≤ 6) (hm : 0 < m) (hm6 : m ≤ 60) : Ok2 (.tuple ((tsL q m s (m - 1 + q)).map pD)) ((25 * 64 + 1) * 65) 4 := by
  refine ok2_tup (W := 25 * 64) (D := 3) (fun d hd => ?_) ?_
  · obtain ⟨ts, hts, rfl⟩ := List.mem_map.mp hd
    unfold tsL at hts
    obtain ⟨t, _, rfl⟩ := List.mem_map.mp hts
    refine ok2_tup (W := 24) (D := 2) (fun e he => ?_) ?_
    · obtain ⟨x, hx, rfl⟩ := List.mem_map.mp he
      exact ok2_bD (trL_small hq hq6 hm hm6 x hx)
    · rw [List.length_map]
      have := trL_len q m s t (2 ^ q)
      have hz : 2 ^ q ≤ 2 ^ 6 := Nat.pow_le_pow_right (by decide) hq6
      omega
  · unfold tsL
    rw [List.length_map, List.length_map, List.length_range]
    omega
theorem plan_shown {q m s : Nat} (hq : 0 < q) (hq6 : q ≤ 6) (hm : 0 < m) (hm6 : m ≤ 60) : (PyData.tuple ((tsL q m s (m - 1 + q)).map pD)).shown.length ≤ sizeLine := by
  have o := plan_ok (s := s) hq hq6 hm hm6
  have h1 := PyData.shown_le 64 (by decide) _ o.lv
  have h2 := o.we
  rw [sizeLine_eq]
  have h3 : (64 + 2) * PyData.weight (.tuple ((tsL q m s (m - 1 + q)).map pD)) ≤ 66 * ((25 * 64 + 1) * 65) := Nat.mul_le_mul (by decide) h2
  omega
theorem plan_shaped {q m s : Nat} (hq : 0 < q) (hq6 : q ≤ 6) (hm : 0 < m) (hm6 : m ≤ 60) : SeqAt.shaped (.tuple ((tsL q m s (m - 1 + q)).map pD)) = true := by
  have o := plan_ok (s := s) hq hq6 hm hm6
  unfold SeqAt.shaped
  rw [o.ca, Bool.true_and]
  exact decide_eq_true (Nat.le_trans o.de (by decide))
/-! ### how far the next bit is -/
def upL (q d k n : Nat) : List Nat := ((List.range n).map (· + 1)).filter fun f => d.testBit ((k + f) % q)
theorem upL_succ (q d k n : Nat) : upL q d k (n + 1) = upL q d k n ++ (if d.testBit ((k + (n + 1)) % q) = true then [n + 1] else []) := by
  unfold upL
  rw [List.range_succ, List.map_append, List.filter_append]
  by_cases h : d.testBit ((k + (n + 1)) % q) = true
  · simp [h]
  · simp [h]
theorem upL_len (q d k n : Nat) : (upL q d k n).length ≤ n := by
  unfold upL
  have := List.length_filter_le (fun f => d.testBit ((k + f) % q)) ((List.range n).map (· + 1))
  rw [List.length_map, List.length_range] at this
  exact this
theorem upL_rb (q d k : Nat) : (upL q d k q).map (fun f => (k + f) % q) = rb q d (k + 1) := by
  unfold upL rb
  rw [List.filter_map, List.filter_map, List.map_map]
  have e : ∀ i, (k + (i + 1)) % q = (k + 1 + i) % q := fun i => by rw [Nat.add_assoc k 1 i, Nat.add_comm 1 i]
  have e2 : ((fun f => (k + f) % q) ∘ fun x => x + 1) = fun i => (k + 1 + i) % q := funext e
  have e3 : ((fun f => d.testBit ((k + f) % q)) ∘ fun x => x + 1) = ((fun x => d.testBit x) ∘ fun i => (k + 1 + i) % q) := funext fun i => by
    show d.testBit ((k + (i + 1)) % q) = d.testBit ((k + 1 + i) % q)
    rw [e]
  rw [e2, e3]
theorem up_is {q d k : Nat} (hq : 0 < q) (hk : k < q) (b : d.testBit k = true) : ∃ u rest, upL q d k q = u :: rest ∧ 1 ≤ u ∧ u ≤ q ∧ ltF q d k = (q - u) % q := by
  have h1 := trF_head hk b
  rw [← upL_rb] at h1
  cases e : upL q d k q with
  | nil => rw [e] at h1; cases h1
  | cons u rest =>
    rw [e] at h1
    have h2 : (k + u) % q = trF q d k := Option.some.inj h1
    have hu : u ∈ upL q d k q := by rw [e]; exact List.mem_cons_self
    unfold upL at hu
    obtain ⟨i, hi, rfl⟩ := List.mem_map.mp (List.mem_filter.mp hu).1
    have hi := List.mem_range.mp hi
    refine ⟨i + 1, rest, rfl, by omega, by omega, ?_⟩
    have h3 := ltF_in hq b
    rw [← h2] at h3
    have h4 : ar q ((k + (i + 1)) % q) k = (((q - (i + 1)) % q : Nat) : Int) := by
      unfold ar
      rw [Int.natCast_emod, Int.natCast_emod, Int.sub_emod, Int.emod_emod, ← Int.sub_emod]
      have e5 : ((k : Int) - ((k + (i + 1) : Nat) : Int)) = ((q - (i + 1) : Nat) : Int) + (q : Int) * (-1) := by omega
      rw [e5, Int.add_mul_emod_self_left]
    rw [h4] at h3
    exact Int.ofNat.inj h3
end Bf
namespace Bf
open PySem PySem.Spec PyProof.Rows L2 LamX NdefX
/-! ### t * k for k from 0 on -/
theorem tuple_mulZ (l : Addr) (items : Array Value) (n : Nat) (dd : Option Addr) (sl : Array (Option Value)) (x : Int) (u : Tok) (c0 : (decide (x < -(2 ^ 63)) || decide (x ≥ 2 ^ 63)) = false) (c1 : (items.isEmpty || x == 1) = false) (c2 : (decide (x ≤ 0) || items.isEmpty) = true) :
    Meets (Builtin.«tuple.__mul__» ⟨[.ref l, .int x u], []⟩) (fun _ R s => s.heap.get? l = some { cls := .type "tuple", dict := dd, data := .seq items n, slots := sl } ∧
      R (.ok (.ret (Value.ref s.heap.objs.size))) { s with heap := s.heap.push { cls := Value.type "tuple", data := Data.seq #[] }, toks := s.toks }) :=
  .of_wp fun prog w A R s h => by
    obtain ⟨hp, g, d, tk, os⟩ := s
    obtain ⟨hl, h⟩ := h
    have f1 := AutoSeq1.idx_int
    wp_walk using wpAny_loadPart' hl
    repeat (first
      | (refine wpAny_ite_false (decide_eq_false (by rw [c0]; exact Bool.false_ne_true)) ?_; wp_walk using wpAny_loadPart' hl)
      | (refine wpAny_ite_false (decide_eq_false (by rw [c1]; exact Bool.false_ne_true)) ?_; wp_walk using wpAny_loadPart' hl)
      | (refine wpAny_ite_true (decide_eq_true c2) ?_; wp_walk using wpAny_loadPart' hl))
    exact ⟨_, rfl, h⟩
def rRepZ (K : PySem.W.Frag) : R2 := fun x y H Q => ∃ l k xs, x = .ref l ∧ y = .int k ∧ SqT K H l xs ∧ xs ≠ [] ∧ 0 ≤ k ∧ k ≤ 1000 ∧ xs.length ≤ 1000 ∧
  (k = 1 → Q (.ref l) H) ∧ (k ≠ 1 → ∀ p, H p = none → Q (.ref p) (upd H p (.tup (List.replicate k.toNat xs).flatten)))
theorem op_repZ {X : Cx} : OpR X (binaryOp .Mult) (rRepZ X.K) := by
  intro pins s σ H x y v u Q I rx ry h
  obtain ⟨l, k, xs, rfl, rfl, hT, hne, h1, h2, hz, q1, q2⟩ := h
  by_cases hk : 2 ≤ k
  · exact op_repT pins s σ H _ _ v u Q I rx ry ⟨l, k, xs, rfl, rfl, hT, hne, hk, h2, hz, q2 (by omega)⟩
  cases rx
  obtain ⟨t, rfl⟩ := ry
  obtain ⟨its, r, ⟨⟨cls, dd, data, sl⟩, ho, hc, n, hd⟩, hs⟩ := I.tuple hT
  simp only at hc hd
  subst hc hd
  have hle : its.length = xs.length := r.length.symm
  have hn : its ≠ [] := fun e => hne (by
    rw [e] at hle
    exact List.eq_nil_of_length_eq_zero hle.symm)
  have hi : its.toArray.isEmpty = false := by
    cases its with
    | nil => exact absurd rfl hn
    | cons a b => rfl
  have c0 : (decide (k < -(2 ^ 63)) || decide (k ≥ 2 ^ 63)) = false := by
    rw [decide_eq_false (by omega), decide_eq_false (by omega)] <;> rfl
  by_cases h0 : k = 1
  · subst h0
    exact wpAny_binaryOp_repeat_ref (T := "tuple") (U := "int") (by decide) ⟨_, ho, rfl⟩ (fun s' => typeIs_int s' 1 t) noFill_tuple_mul F.fills_int_mul F.slot_int_rmul repeat_tuple F.slot_int_index.lookup
      (call_meets F.slot_int_rmul (typeIs_int s 1 t) F.entry_int_rmul (F.args_int_rmul_2 _ _) (int_rmul_tuple 1 t l its.toArray n dd sl)
        ⟨ho, rfl, ⟨_, ho, rfl⟩, call_meets F.slot_tuple_mul ⟨_, ho, rfl⟩ F.entry_tuple_mul (F.args_tuple_mul_2 _ _) (tuple_mul0 l its.toArray n dd sl 1 t c0 (by rw [hi]; rfl)) ⟨ho, ⟨.ref l, H, I, rfl, q1 rfl⟩⟩⟩)
  · have hk0 : k = 0 := by omega
    subst hk0
    have c1 : (its.toArray.isEmpty || (0 : Int) == 1) = false := by
      rw [hi]
      rfl
    have c2 : (decide ((0 : Int) ≤ 0) || its.toArray.isEmpty) = true := rfl
    refine wpAny_binaryOp_repeat_ref (T := "tuple") (U := "int") (by decide) ⟨_, ho, rfl⟩ (fun s' => typeIs_int s' 0 t) noFill_tuple_mul F.fills_int_mul F.slot_int_rmul repeat_tuple F.slot_int_index.lookup
      (call_meets F.slot_int_rmul (typeIs_int s 0 t) F.entry_int_rmul (F.args_int_rmul_2 _ _) (int_rmul_tuple 0 t l its.toArray n dd sl)
        ⟨ho, rfl, ⟨_, ho, rfl⟩, call_meets F.slot_tuple_mul ⟨_, ho, rfl⟩ F.entry_tuple_mul (F.args_tuple_mul_2 _ _) (tuple_mulZ l its.toArray n dd sl 0 t c0 c1 c2) ⟨ho, ?_⟩⟩)
    refine ⟨.ref s.heap.objs.size, _, I.laid (t' := s.toks) (o := .tup (List.replicate (0 : Int).toNat xs).flatten) (fun b ob q => Heap.get?_push_of_some _ q) (Nat.le_refl _) ?_, rfl, q2 (by decide) _ (I.hok.fresh (Nat.le_refl _))⟩
    exact ⟨Nat.zero_le _, [], .nil, IsTup.new _ _⟩
/-! ### walks -/
theorem walk_revT {K : PySem.W.Frag} {a : Addr} {xs : List V} : Walk (RT.ItvT K a xs.length) xs.length (fun H => SqT K H a xs) (fun i H x H' => H' = H ∧ xs[xs.length - 1 - i]? = some x) :=
  ⟨fun i _ hi q => ⟨hi, xs, xs[xs.length - 1 - i]'(by omega), q, by simp [show xs.length - 1 - i < xs.length by omega]⟩, fun _ _ => Nat.le_refl _, fun _ _ _ _ _ q y => ⟨y.1, y.2 xs q⟩⟩
theorem walk_zipT {K : PySem.W.Frag} {a b : Addr} {xs ys : List V} {n : Nat} (hn : n = min xs.length ys.length) : Walk (RZ.ItzT K a b) n (fun H => SqT K H a xs ∧ SqT K H b ys) (YPair (fun i => xs[i]?) (fun i => ys[i]?)) := by
  subst hn
  refine ⟨fun i _ hi q => ?_, fun _ q => ⟨xs, ys, q.1, q.2, by omega⟩, fun i H v H' _ q y => ?_⟩
  · have h1 : i < xs.length := by omega
    have h2 : i < ys.length := by omega
    exact ⟨xs, ys, xs[i], ys[i], q.1, q.2, by simp [h1], by simp [h2]⟩
  · obtain ⟨T, x, z, h1, h2, h3, h4, h5⟩ := y
    exact ⟨T, x, z, h1, h2, h3, h4 xs q.1, h5 ys q.2⟩
/-! ### what a row comes to -/
def ev : List Nat → Nat → Nat
  | [], _ => 0
  | a :: as, x => a + x * ev as x
theorem ev_snoc (x a : Nat) : ∀ ns : List Nat, ev (ns ++ [a]) x = ev ns x + a * x ^ ns.length
  | [] => by simp [ev]
  | b :: ns => by
    show b + x * ev (ns ++ [a]) x = b + x * ev ns x + a * x ^ (ns.length + 1)
    rw [ev_snoc x a ns, Nat.mul_add, Nat.pow_succ]
    have : x * (a * x ^ ns.length) = a * (x ^ ns.length * x) := by rw [Nat.mul_left_comm, Nat.mul_comm x]
    omega
theorem ev_zeros (x : Nat) (ns : List Nat) : ∀ k, ev (ns ++ List.replicate k 0) x = ev ns x
  | 0 => by rw [List.replicate_zero, List.append_nil]
  | k + 1 => by
    rw [List.replicate_succ', ← List.append_assoc, ev_snoc, ev_zeros x ns k]
    simp
theorem ev_more (p x c : Nat) : ∀ as bs : List Nat, as.length = bs.length → ev ((as.zip bs).map fun ab => (ab.1 + c * ab.2) % p) x % p = (ev as x + c * ev bs x) % p
  | [], [], _ => by simp [ev]
  | a :: as, b :: bs, h => by
    have ih := ev_more p x c as bs (by simpa using h)
    show ((a + c * b) % p + x * ev ((as.zip bs).map fun ab => (ab.1 + c * ab.2) % p) x) % p = (a + x * ev as x + c * (b + x * ev bs x)) % p
    rw [Nat.add_mod, Nat.mod_mod, Nat.mul_mod, ih, ← Nat.mul_mod, ← Nat.add_mod]
    congr 1
    rw [Nat.mul_add, Nat.mul_add, Nat.mul_left_comm c x]
    omega
theorem ev_step {p x a : Nat} {as : List Nat} : (ev as x % p * x + a) % p = ev (a :: as) x % p := by
  show _ = (a + x * ev as x) % p
  rw [Nat.add_comm a, Nat.mul_comm x, Nat.add_mod, Nat.mul_mod, Nat.mod_mod, ← Nat.mul_mod, ← Nat.add_mod]
theorem ev_pow {p x a : Nat} {as : List Nat} : (ev as x % p + a * (x ^ as.length % p)) % p = ev (as ++ [a]) x % p := by
  rw [ev_snoc, Nat.add_mod, Nat.mod_mod, Nat.mul_mod, Nat.mod_mod, ← Nat.mul_mod, ← Nat.add_mod]
theorem pow_step {p x n : Nat} : x ^ n % p * x % p = x ^ (n + 1) % p := by
  rw [Nat.pow_succ, Nat.mul_mod, Nat.mod_mod, ← Nat.mul_mod]
theorem rep_zero : ∀ k : Nat, (List.replicate k [V.int 0]).flatten = nv (List.replicate k 0)
  | 0 => rfl
  | k + 1 => by
    rw [List.replicate_succ, List.flatten_cons, rep_zero k, List.replicate_succ]
    rfl
/-! ### how rows are shown -/
theorem ok2_row {ns : List Nat} (h : ∀ n ∈ ns, n < 2 ^ 61) (hl : ns.length ≤ 100) : Ok2 (.tuple (nd' ns)) 6300 2 := by
  refine ⟨nd_show _ h, nd_dict _, nd_dep _, nd_leaves _ h, ?_, nd_canAll _⟩
  have h2 : PyData.weight (.tuple (nd' ns)) ≤ 63 * ns.length := nd_weight ns h
  omega
theorem two_shown {ds : List PyData} (h : ∀ d ∈ ds, Ok2 d 6300 2) (hl : ds.length ≤ 2) : (PyData.showableAll ds = true ∧ PyData.hasDictAll ds = false ∧ PyData.depthAll ds + 1 < 60) ∧ (PyData.tuple ds).shown.length ≤ sizeLine ∧ (PyData.list ds).shown.length ≤ sizeLine := by
  obtain ⟨a1, a2, a3, a4, a5, a6⟩ := ok2_all ds h
  refine ⟨⟨a1, a2, by omega⟩, ?_, ?_⟩
  · have h1 := PyData.shown_le 64 (by decide) (.tuple ds) a4
    have h2 : PyData.weight (.tuple ds) ≤ 6301 * ds.length := a5
    rw [sizeLine_eq]
    have h3 : (64 + 2) * PyData.weight (.tuple ds) ≤ 66 * (6301 * 2) := Nat.mul_le_mul (by decide) (by omega)
    omega
  · have h1 := PyData.shown_le 64 (by decide) (.list ds) a4
    have h2 : PyData.weight (.list ds) ≤ 6301 * ds.length := a5
    rw [sizeLine_eq]
    have h3 : (64 + 2) * PyData.weight (.list ds) ≤ 66 * (6301 * 2) := Nat.mul_le_mul (by decide) (by omega)
    omega
end Bf
namespace Bf
open PySem PySem.Spec PyProof.Rows L2 LamX NdefX
/-! ### t * k for any small k -/
def rRepI (K : PySem.W.Frag) : R2 := fun x y H Q => ∃ l k xs, x = .ref l ∧ y = .int k ∧ SqT K H l xs ∧ xs ≠ [] ∧ -1000 ≤ k ∧ k ≤ 1000 ∧ xs.length ≤ 1000 ∧
  (k = 1 → Q (.ref l) H) ∧ (k ≠ 1 → ∀ p, H p = none → Q (.ref p) (upd H p (.tup (List.replicate k.toNat xs).flatten)))
theorem op_repI {X : Cx} : OpR X (binaryOp .Mult) (rRepI X.K) := by
  intro pins s σ H x y v u Q I rx ry h
  obtain ⟨l, k, xs, rfl, rfl, hT, hne, h1, h2, hz, q1, q2⟩ := h
  by_cases hk : 0 ≤ k
  · exact op_repZ pins s σ H _ _ v u Q I rx ry ⟨l, k, xs, rfl, rfl, hT, hne, hk, h2, hz, q1, q2⟩
  cases rx
  obtain ⟨t, rfl⟩ := ry
  obtain ⟨its, r, ⟨⟨cls, dd, data, sl⟩, ho, hc, n, hd⟩, hs⟩ := I.tuple hT
  simp only at hc hd
  subst hc hd
  have hle : its.length = xs.length := r.length.symm
  have hi : its.toArray.isEmpty = false := by
    cases its with
    | nil => exact absurd (List.eq_nil_of_length_eq_zero hle.symm) hne
    | cons a b => rfl
  have c0 : (decide (k < -(2 ^ 63)) || decide (k ≥ 2 ^ 63)) = false := by
    rw [decide_eq_false (by omega), decide_eq_false (by omega)] <;> rfl
  have c1 : (its.toArray.isEmpty || k == 1) = false := by
    rw [hi, Bool.false_or]
    exact beq_eq_false_iff_ne.mpr (by omega)
  have c2 : (decide (k ≤ 0) || its.toArray.isEmpty) = true := by rw [decide_eq_true (show k ≤ 0 by omega)]; rfl
  have e0 : k.toNat = 0 := by omega
  refine wpAny_binaryOp_repeat_ref (T := "tuple") (U := "int") (by decide) ⟨_, ho, rfl⟩ (fun s' => typeIs_int s' k t) noFill_tuple_mul F.fills_int_mul F.slot_int_rmul repeat_tuple F.slot_int_index.lookup
    (call_meets F.slot_int_rmul (typeIs_int s k t) F.entry_int_rmul (F.args_int_rmul_2 _ _) (int_rmul_tuple k t l its.toArray n dd sl)
      ⟨ho, rfl, ⟨_, ho, rfl⟩, call_meets F.slot_tuple_mul ⟨_, ho, rfl⟩ F.entry_tuple_mul (F.args_tuple_mul_2 _ _) (tuple_mulZ l its.toArray n dd sl k t c0 c1 c2) ⟨ho, ?_⟩⟩)
  refine ⟨.ref s.heap.objs.size, _, I.laid (t' := s.toks) (o := .tup (List.replicate k.toNat xs).flatten) (fun b ob q => Heap.get?_push_of_some _ q) (Nat.le_refl _) ?_, rfl, q2 (by omega) _ (I.hok.fresh (Nat.le_refl _))⟩
  rw [e0]
  exact ⟨Nat.zero_le _, [], .nil, IsTup.new _ _⟩
/-- (0,) * k -/
theorem rep_zeros {K : PySem.W.Frag} {l : Addr} {k : Int} {H : Hp} {Q : VK} (hT : SqT K H l [V.int 0]) (h1 : -1000 ≤ k) (h2 : k ≤ 1000) (h : ∀ q H', Same H H' → SqT K H' q (nv (List.replicate k.toNat 0)) → Q (.ref q) H') : rRepI K (.ref l) (.int k) H Q := by
  refine ⟨l, k, [V.int 0], rfl, rfl, hT, by simp, h1, h2, by simp, fun e => ?_, fun _ p np => ?_⟩
  · subst e
    exact h l H (Same.refl H) hT
  · refine h p _ (same_new (Same.refl H) np) (.inl (.inl ?_))
    rw [upd_same, rep_zero]
end Bf
namespace Bf
open PySem PySem.Spec PyProof.Rows L2
open AutoSeq1 (wpAny_loadPart')
/-! ### enumerate(tuple) -/
theorem new_enumT (tu : Addr) (its : Array Value) (c : Nat) (dd : Option Addr) (sls : Array (Option Value)) :
    Meets (Builtin.«enumerate.__new__» ⟨[.type "enumerate", .ref tu], []⟩) (fun _ R s => s.heap.get? tu = some { cls := .type "tuple", dict := dd, data := .seq its c, slots := sls } ∧
      R (.ok (.ret (.ref (s.heap.push { cls := .type "tuple_iterator", data := .fields #[.ref tu, .int 0 0] }).objs.size)))
        { s with heap := (s.heap.push { cls := .type "tuple_iterator", data := .fields #[.ref tu, .int 0 0] }).push { cls := .type "enumerate", data := .fields #[.none, .bool false, .ref s.heap.objs.size, rawInt 0, .none, .none] } }) := by
  refine .of_wp fun prog w A R s hh => ?_
  obtain ⟨hp, g, d, tk, os⟩ := s
  obtain ⟨ht, hh⟩ := hh
  have subE := sub_enumerate
  have hT : Heap.IsTuple (Shared.heap ⟨hp, g, d, tk, os⟩) tu its := ⟨_, ht, rfl, c, rfl⟩
  wp_walk using wpAny_loadPart' ht
  refine wpAny_stack_any fun st => wpAny_pure ?_
  split
  · rename_i cc _ _ _ _ _
    cases (cc == Value.type "enumerate")
    · wp_walk using wpAny_loadPart' ht, wpAny_pyIter_tuple hT
      exact ⟨_, rfl, hh⟩
    · wp_walk using wpAny_loadPart' ht, wpAny_pyIter_tuple hT
      exact ⟨_, rfl, hh⟩
  · wp_walk using wpAny_loadPart' ht, wpAny_pyIter_tuple hT
    exact ⟨_, rfl, hh⟩
theorem call_enumT {prog : Program} {w : World} {A : Around} {E : Value → Shared → Prop} {s : Shared} {tu : Addr} {its : Array Value} {Q : Value → Shared → Prop} (hT : s.heap.IsTuple tu its)
    (go : ∀ h', IsEnum h' (s.heap.objs.size + 1) s.heap.objs.size 0 .none → h'.IsTupleIter s.heap.objs.size tu 0 → (∀ b o, s.heap.get? b = some o → h'.get? b = some o) → Q (.ref (s.heap.objs.size + 1)) { s with heap := h' }) : wpAny (model prog w) A (call (.type "enumerate") [.ref tu]) Q E s := by
  obtain ⟨⟨cl, dd, dt, sls⟩, ht, hc, c, hd⟩ := hT
  have hc : cl = .type "tuple" := hc
  have hd : dt = .seq its c := hd
  subst hc hd
  refine callType_new F.called_enumerate (by decide) (F.typeCall_enumerate_1 _) (F.newCall_enumerate_1 _) (fun ob => F.args_object_init_2 ob _) F.entry_enumerate_new (new_enumT tu its c dd sls) ⟨ht, ?_⟩
  generalize hh1 : s.heap.push { cls := .type "tuple_iterator", data := .fields #[.ref tu, .int 0 0] } = h1
  have z1 : h1.objs.size = s.heap.objs.size + 1 := by rw [← hh1]; exact Heap.size_push ..
  have g1 : h1.IsTupleIter s.heap.objs.size tu 0 := by rw [← hh1]; exact ⟨_, Heap.get?_push_size _ rfl, rfl, rfl⟩
  have k1 : ∀ b o, s.heap.get? b = some o → h1.get? b = some o := fun b o e => by rw [← hh1]; exact Heap.get?_push_of_some _ e
  show _ ∧ _
  rw [z1]
  have en : IsEnum (h1.push { cls := .type "enumerate", data := .fields #[.none, .bool false, .ref s.heap.objs.size, rawInt 0, .none, .none] }) (s.heap.objs.size + 1) s.heap.objs.size 0 .none := by
    have q := Heap.get?_push_size h1 (o := { cls := .type "enumerate", data := .fields #[.none, .bool false, .ref s.heap.objs.size, rawInt 0, .none, .none] }) rfl
    rw [z1] at q
    exact q
  refine ⟨⟨_, en, rfl⟩, go _ en (g1.at fun o e => Heap.get?_push_of_some _ e) fun b o e => Heap.get?_push_of_some _ (k1 b o e)⟩
/-- the tuple at a, each item in a new pair -/
def IteT (K : PySem.W.Frag) (a : Addr) : It where
  go := fun i H => ∃ (us : List V) (u : V), SqT K H a us ∧ us[i]? = some u
  yld := fun i H v H' => ∃ T u, v = .ref T ∧ H T = none ∧ H' = upd H T (.tup [.int (i : Nat), u]) ∧ ∀ us, SqT K H a us → us[i]? = some u
  stop := fun i H => ∃ us : List V, SqT K H a us ∧ us.length = i
theorem turn_enT {P : Program} {w : World} {K : PySem.W.Frag} {elts : List Expr} {kk : Nat} {tpos : Pos} (a e it : Addr) :
    Turn P w K (.Tuple elts kk tpos) (IteT K a) [e, it] e (fun i h => (∃ old, IsEnum h e it ((i : Nat) : Int) old) ∧ h.IsTupleIter it a i ∧ e ≠ it ∧ e ≠ a ∧ a ≠ it) where
  mem := by simp
  obj := by
    rintro i h ⟨⟨old, he⟩, ⟨o, ho, hc, hd⟩, _⟩ b hb
    rcases (show b = e ∨ b = it by simpa using hb) with rfl | rfl
    · exact ⟨_, he, fun v q => nomatch q⟩
    · exact ⟨o, ho, fun v q => by rw [hd] at q; cases q⟩
  keep := by
    rintro i h h' ⟨⟨old, he⟩, hi, hne⟩ k
    exact ⟨⟨old, k e (by simp) _ he⟩, hi.at fun o q => k it (by simp) o q, hne⟩
  item := by
    intro X hP hw hK hc i pins s σ H E I hf st hg
    subst hP hw hK
    obtain ⟨⟨old, he⟩, hit, n1, n2, n3⟩ := st
    obtain ⟨us, u, hq, hu⟩ := hg
    obtain ⟨its, rv, p, hz⟩ := I.tuple hq
    obtain ⟨val, hval, ru⟩ := rv.get hu
    have ltE : e < s.heap.objs.size := Heap.lt_size he
    have ltI : it < s.heap.objs.size := by obtain ⟨_, q, _⟩ := hit; exact Heap.lt_size q
    have hin : i < its.toArray.size := by
      have := (List.getElem?_eq_some_iff.mp hval).1
      simpa using this
    have pT : s.heap.IsTuple a its.toArray := p
    refine wpAny_pyNext_enum_itemD (Draws.tuple (A := X.A.in1) (I.ok.hd hc) it a n3 its.toArray) he ⟨hit, pT⟩ hin n1 (by simp [n1, n2]) fun x h' tk hx ho hst hT hsz hk => ?_
    have ex : x = val := by
      have h1 : its.toArray[i]? = some x := hx
      have h2 : its[i]? = some x := by simpa using h1
      exact Option.some.inj (h2.symm.trans hval)
    subst ex
    refine ⟨_, rfl, wpAny_letOwnedTupleGo_enum (s := { s with heap := h', toks := tk + 1 }) ho fun h'' he' sb => ?_⟩
    have hT2 : h''.get? s.heap.objs.size = some { cls := .type "tuple", data := .seq #[.int i tk, x] } := (sb.2 _ (Nat.ne_of_gt ltE)).trans hT
    have fresh : ObjOk X.prog X.w (upd H s.heap.objs.size (.tup [.int (i : Nat), u])) h'' s.heap.objs.size (.tup [.int (i : Nat), u]) := ⟨by show 2 ≤ sizeLine; decide, [.int i tk, x], .cons ⟨_, rfl⟩ (.cons ru .nil), ⟨_, hT2, rfl, _, rfl⟩⟩
    have I1 : Inv X pins σ (upd H s.heap.objs.size (.tup [.int (i : Nat), u])) { s with heap := h'', toks := tk + 1 } := by
      refine I.turnedNew (ch := [e, it]) (fun b ob hb q => ?_) hf (Nat.le_refl _) fresh
      have hb1 : b ≠ e := fun z => hb (by simp [z])
      have hb2 : b ≠ it := fun z => hb (by simp [z])
      exact (sb.2 b hb1).trans (hk b ob hb1 hb2 q)
    refine ⟨.ref s.heap.objs.size, _, I1, rfl, ⟨_, u, rfl, I.hok.fresh (Nat.le_refl _), rfl, fun ys hy => by rw [I.tuple_inj hy hq]; exact hu⟩, ⟨⟨x, ?_⟩, hst.1.at fun o q => (sb.2 it (Ne.symm n1)).trans q, n1, n2, n3⟩, fun b hb => ?_⟩
    · rw [show ((i + 1 : Nat) : Int) = (i : Int) + 1 by omega]
      exact he'
    · have lb : b < s.heap.objs.size := by
        rcases (show b = e ∨ b = it by simpa using hb) with rfl | rfl
        · exact ltE
        · exact ltI
      rw [upd_ne (Nat.ne_of_lt lb)]
      exact (hf b hb).1
  done := by
    intro X hP hw hK hc i pins s σ H E I hf st hg
    subst hP hw hK
    obtain ⟨⟨old, he⟩, hit, n1, n2, n3⟩ := st
    obtain ⟨us, hq, hu⟩ := hg
    obtain ⟨its, rv, p, hz⟩ := I.tuple hq
    have hl := rv.length
    obtain ⟨f0, f1, f2, f3, f4, f5⟩ := hf it (by simp)
    have pT : s.heap.IsTuple a its.toArray := p
    have ei : its.toArray.size = i := by simp; omega
    refine wpAny_pyNext_enum_endD (Draws.tuple (A := X.A.in1) (I.ok.hd hc) it a n3 its.toArray) he ⟨by rw [ei]; exact hit, pT⟩ fun h' eb => ⟨rfl, ?_⟩
    exact I.turned (t' := s.toks) (fun b o hb q => eb b o hb q) f0 f1 f3 f4 f5
  self := by
    rintro A i s Q E ⟨⟨_, he⟩, _⟩ h
    exact wpAny_pyIter_enum he h
def iEnT (K : PySem.W.Frag) (ta : TA) : TI := fun σ H R => ta σ H fun vs H1 => ∃ a us, vs = [.ref a] ∧ SqT K H1 a us ∧ R (IteT K a) H1
theorem pi_enT {X : Cx} {e : Expr} {ta : TA} {p pos tpos : Pos} {elts : List Expr} {kk : Nat} (hg : Gl X "enumerate") (hm : X.mg "enumerate" = none) (ha : PA X [e] ta) (hs : starEach [e] X.env = [(false, eval e X.env)] := by rfl) : PI X (.Tuple elts kk tpos) (.Call (.Name "enumerate" p) [e] [] pos) (iEnT X.K ta) := by
  constructor
  intro pins s σ H R I h
  refine Call_ (ld_blt I hg hm boot_enumerate (PyProof.Rows.callWith_type1 (thn (ha.run pos pins s σ H _ I h) fun ws s1 ⟨vs, H1, I1, r1, q1⟩ => ?_) hs rfl))
  obtain ⟨a, us, ex, hq, q⟩ := q1
  subst ex
  match ws, r1 with
  | _, .cons r .nil =>
    cases r
    obtain ⟨its, rv, pp, hz⟩ := I1.tuple hq
    have pT : s1.heap.IsTuple a its.toArray := pp
    have la : a < s1.heap.objs.size := by obtain ⟨_, ho, _⟩ := pT; exact Heap.lt_size ho
    refine call_enumT pT fun h' en hit kp => wpAny_pyIter_enum en ?_
    have I2 : Inv X pins σ H1 { s1 with heap := h' } := I1.kept (t' := s1.toks) kp
    refine ⟨s1.heap.objs.size + 1, [s1.heap.objs.size + 1, s1.heap.objs.size], _, _, H1, rfl, I2, turn_enT a (s1.heap.objs.size + 1) s1.heap.objs.size, ⟨⟨.none, en⟩, hit, Nat.succ_ne_self _, Ne.symm (Nat.ne_of_lt (Nat.lt_succ_of_lt la)), Nat.ne_of_lt la⟩, fun b hb => ?_, q⟩
    have lb : s1.heap.objs.size ≤ b := by
      rcases (show b = s1.heap.objs.size + 1 ∨ b = s1.heap.objs.size by simpa using hb) with rfl | rfl
      · exact Nat.le_add_right _ _
      · exact Nat.le_refl _
    exact I1.fpOk lb (I1.hok.fresh lb)
theorem walk_enT {K : PySem.W.Frag} {a : Addr} {us : List V} : Walk (IteT K a) us.length (fun H => SqT K H a us) (YPair (fun i => some (.int (i : Nat))) (fun i => us[i]?)) := by
  refine ⟨fun i H hi q => ⟨us, us[i], q, List.getElem?_eq_getElem hi⟩, fun H q => ⟨us, q, rfl⟩, fun i H v H' _ q y => ?_⟩
  obtain ⟨T, u, h1, h2, h3, h4⟩ := y
  exact ⟨T, .int (i : Nat), u, h1, h2, h3, rfl, h4 us q⟩
end Bf
namespace Bf
open PySem PySem.Spec PyProof.Rows L2 LamX NdefX
/-! ### small things for k11 -/
theorem pigeon {l : List Nat} {n : Nat} (nd : l.Nodup) (h : ∀ x ∈ l, x < n) : l.length ≤ n := by
  have p : l.Perm ((List.range n).filter fun x => decide (x ∈ l)) := by
    refine (List.perm_ext_iff_of_nodup nd (List.Pairwise.filter _ List.nodup_range)).mpr fun x => ?_
    rw [List.mem_filter, List.mem_range]
    exact ⟨fun hx => ⟨h x hx, decide_eq_true hx⟩, fun hx => of_decide_eq_true hx.2⟩
  rw [p.length_eq]
  have := List.length_filter_le (fun x => decide (x ∈ l)) (List.range n)
  rw [List.length_range] at this
  exact this
structure GI (q j s : Nat) (P W : List Nat) (ps : List (Nat × Nat)) : Prop where
  nd : (P ++ W).Nodup
  lt : ∀ x ∈ P ++ W, x < 2 ^ q
  src : s ∈ P ++ W
  par : ∀ x ∈ P ++ W, x ≠ s → tl q j s x ∈ P
  pnd : (ps.map (·.2)).Nodup
  pm : ∀ x, x ∈ ps.map (·.2) ↔ x < 2 ^ q ∧ tl q j s x ∈ P
  pt : ∀ pr ∈ ps, pr.1 = tl q j s pr.2
  cls : ∀ h x, h ∈ P → x < 2 ^ q → tl q j s x = h → x ≠ s → x ∈ P ++ W
theorem GI.start {q j s : Nat} (hs : s < 2 ^ q) : GI q j s [] [s] [] where
  nd := by simp
  lt := fun x hx => by
    have : x = s := by simpa using hx
    rw [this]
    exact hs
  src := by simp
  par := fun x hx hne => absurd (by simpa using hx) hne
  pnd := List.Pairwise.nil
  pm := fun x => by simp
  pt := fun pr h => absurd h List.not_mem_nil
  cls := fun h x hh => absurd hh List.not_mem_nil
theorem GI.step {q j s h : Nat} {P W ns : List Nat} {ps : List (Nat × Nat)} (g : GI q j s P (W ++ [h]) ps) (nn : ns.Nodup) (hn : ∀ x, x ∈ ns ↔ x < 2 ^ q ∧ tl q j s x = h) :
    GI q j s (P ++ [h]) (W ++ ns.filter fun x => !decide (x = s)) (ps ++ ns.map fun x => (h, x)) := by
  have hp : (P ++ (W ++ [h])).Perm (P ++ [h] ++ W) := by
    rw [List.append_assoc]
    exact List.Perm.append_left P List.perm_append_comm
  have nd1 : (P ++ [h] ++ W).Nodup := hp.nodup_iff.mp g.nd
  have hP : h ∉ P := fun z => by
    have := List.nodup_append.mp g.nd
    exact this.2.2 h z h (by simp) rfl
  have old : ∀ x, x ∈ P ++ [h] ++ W ↔ x ∈ P ++ (W ++ [h]) := fun x => hp.mem_iff.symm
  have fil : ∀ x, x ∈ ns.filter (fun x => !decide (x = s)) ↔ (x < 2 ^ q ∧ tl q j s x = h) ∧ x ≠ s := fun x => by
    rw [List.mem_filter, hn]
    simp
  refine ⟨?_, ?_, ?_, ?_, ?_, ?_, ?_, ?_⟩
  · rw [← List.append_assoc]
    refine List.nodup_append.mpr ⟨nd1, List.Pairwise.filter _ nn, fun a ha b hb e => ?_⟩
    subst e
    obtain ⟨⟨_, h2⟩, h3⟩ := (fil a).mp hb
    have := g.par a ((old a).mp ha) h3
    rw [h2] at this
    exact hP this
  · intro x hx
    rw [← List.append_assoc] at hx
    rcases List.mem_append.mp hx with hx | hx
    · exact g.lt x ((old x).mp hx)
    · exact ((fil x).mp hx).1.1
  · rw [← List.append_assoc]
    exact List.mem_append_left _ ((old s).mpr g.src)
  · intro x hx hne
    rw [← List.append_assoc] at hx
    rcases List.mem_append.mp hx with hx | hx
    · exact List.mem_append_left _ (g.par x ((old x).mp hx) hne)
    · rw [((fil x).mp hx).1.2]
      simp
  · have e : (ps ++ ns.map fun x => (h, x)).map (·.2) = ps.map (·.2) ++ ns := by
      rw [List.map_append, List.map_map]
      congr 1
      exact (List.map_congr_left fun x _ => rfl).trans (List.map_id ns)
    rw [e]
    refine List.nodup_append.mpr ⟨g.pnd, nn, fun a ha b hb e => ?_⟩
    subst e
    have h1 := ((g.pm a).mp ha).2
    rw [((hn a).mp hb).2] at h1
    exact hP h1
  · intro x
    have e : (ps ++ ns.map fun x => (h, x)).map (·.2) = ps.map (·.2) ++ ns := by
      rw [List.map_append, List.map_map]
      congr 1
      exact (List.map_congr_left fun x _ => rfl).trans (List.map_id ns)
    rw [e, List.mem_append, g.pm, hn, List.mem_append, List.mem_singleton]
    constructor
    · rintro (⟨a, b⟩ | ⟨a, b⟩)
      · exact ⟨a, .inl b⟩
      · exact ⟨a, .inr b⟩
    · rintro ⟨a, b | b⟩
      · exact .inl ⟨a, b⟩
      · exact .inr ⟨a, b⟩
  · intro pr hpr
    rcases List.mem_append.mp hpr with hpr | hpr
    · exact g.pt pr hpr
    · obtain ⟨x, hx, rfl⟩ := List.mem_map.mp hpr
      exact ((hn x).mp hx).2.symm
  · intro h' x hh' hx ht hne
    rw [← List.append_assoc]
    rcases List.mem_append.mp hh' with z | z
    · exact List.mem_append_left _ ((old x).mpr (g.cls h' x z hx ht hne))
    · rw [List.mem_singleton.mp z] at ht
      exact List.mem_append_right _ ((fil x).mpr ⟨⟨hx, ht⟩, hne⟩)
theorem tl_lt {q j s x : Nat} (hj : j < q) (hx : x < 2 ^ q) : tl q j s x < 2 ^ q := Nat.xor_lt_two_pow hx (Nat.pow_lt_pow_right (by decide) (cl_lt hj (List.getLast_mem _)))
theorem GI.all {q j s : Nat} {P : List Nat} {ps : List (Nat × Nat)} (hj : j < q) (hs : s < 2 ^ q) (g : GI q j s P [] ps) : ∀ x, x ∈ ps.map (·.2) ↔ x < 2 ^ q := fun x => by
  have src : s ∈ P := by simpa using g.src
  have all : ∀ y, y < 2 ^ q → y ∈ P := fun y hy => by
    by_cases e : y = s
    · rw [e]
      exact src
    · exact reach (P := fun z => z ∈ P) hj hs src (fun h x a b c d => by simpa using g.cls h x a b c d) _ y hy (Nat.le_refl _) e
  rw [g.pm]
  exact ⟨fun h => h.1, fun h => ⟨h, all _ (tl_lt hj h)⟩⟩
theorem GI.len {q j s : Nat} {P W : List Nat} {ps : List (Nat × Nat)} (g : GI q j s P W ps) : ps.length ≤ 2 ^ q ∧ P.length ≤ 2 ^ q := by
  constructor
  · have := pigeon g.pnd (n := 2 ^ q) fun x hx => ((g.pm x).mp hx).1
    rw [List.length_map] at this
    exact this
  · have := pigeon g.nd g.lt
    rw [List.length_append] at this
    omega
/-- a while whose measure stands in the invariant -/
theorem while_m {c : TT} {tb : TS} {D : Ends} {σ : L2.St} {H : Hp} (Pv : Nat → L2.St → Hp → Prop) (Ex : L2.St → Hp → Prop) (h0 : ∃ m, Pv m σ H)
    (hs : ∀ m σ H, Pv m σ H → c σ H fun b H1 => if b = true then tb { D with nx := fun σ' H' => ∃ m', m' < m ∧ Pv m' σ' H', ct := fun σ' H' => ∃ m', m' < m ∧ Pv m' σ' H', bk := D.nx } σ H1 else Ex σ H1)
    (he : ∀ σ H, Ex σ H → D.nx σ H) (mono : ∀ σ H Q Q', (∀ b H1, Q b H1 → Q' b H1) → c σ H Q → c σ H Q') : tWhile c tb D σ H := by
  refine ⟨Pv, h0, fun m σ H p => mono σ H _ _ (fun b H1 q => ?_) (hs m σ H p)⟩
  cases b with
  | true =>
    rw [if_pos rfl] at q
    first
      | exact q
      | exact iteT q
      | (rw [if_pos rfl]; exact ⟨_, fun σ' H' h => h, q⟩)
      | exact ⟨_, fun σ' H' h => h, q⟩
  | false =>
    rw [if_neg (by decide)] at q
    first
      | exact he _ _ q
      | (rw [if_neg (by decide)]; exact he _ _ q)
end Bf
namespace Bf
open PySem PySem.Spec PyProof.Rows L2 LamX NdefX
/-! ## data that values stand for; fp: the lists and dicts in it -/
def kD : Key → PyData
  | .inl i => .int i
  | .inr x => .str x
/-- a tuple as it is made -/
def TupR (H : Hp) (a : Addr) (xs : List V) : Prop := H a = some (.tup xs)
theorem TupR.q {K : PySem.W.Frag} {H : Hp} {a : Addr} {xs : List V} (h : TupR H a xs) : SqT K H a xs := .inl (.inl h)
theorem TupR.same {H H' : Hp} {a : Addr} {xs : List V} (s : Same H H') (h : TupR H a xs) : TupR H' a xs := s _ _ h
/-- what may change -/
def Mtb : HO → Prop
  | .lst _ => True
  | .dK _ => True
  | .dT _ => True
  | _ => False
mutual
inductive Im (K : PySem.W.Frag) (H : Hp) : V → PyData → List Addr → Prop
  | non : Im K H .non .none []
  | bl (b : Bool) : Im K H (.bl b) (.bool b) []
  | int (i : Int) : Im K H (.int i) (.int i) []
  | str (x : Str) : Im K H (.str x) (.str x) []
  | lst {a : Addr} {xs : List V} {ds : List PyData} {fp fq : List Addr} : H a = some (.lst xs) → ImA K H xs ds fp → fq = a :: fp → Im K H (.ref a) (.list ds) fq
  | tup {a : Addr} {xs : List V} {ds : List PyData} {fp : List Addr} : TupR H a xs → ImA K H xs ds fp → Im K H (.ref a) (.tuple ds) fp
  | dicK {a : Addr} {kvs : List (Key × V)} {ps : List (PyData × PyData)} {ds : List PyData} {fp fq : List Addr} : H a = some (.dK kvs) → ps.map Prod.fst = kvs.map (fun kv => kD kv.1) → ps.map Prod.snd = ds → ImA K H (kvs.map Prod.snd) ds fp → fq = a :: fp → Im K H (.ref a) (.dict ps) fq
  | dicT {a : Addr} {kvs : List (List Key × V)} {ps : List (PyData × PyData)} {ds : List PyData} {fp fq : List Addr} : H a = some (.dT kvs) → ps.map Prod.fst = kvs.map (fun kv => .tuple (kv.1.map kD)) → ps.map Prod.snd = ds → ImA K H (kvs.map Prod.snd) ds fp → fq = a :: fp → Im K H (.ref a) (.dict ps) fq
inductive ImA (K : PySem.W.Frag) (H : Hp) : List V → List PyData → List Addr → Prop
  | nil : ImA K H [] [] []
  | cons {v : V} {vs : List V} {d : PyData} {ds : List PyData} {fp fq fr : List Addr} : Im K H v d fp → ImA K H vs ds fq → fr = fp ++ fq → ImA K H (v :: vs) (d :: ds) fr
end
section
variable {K : PySem.W.Frag} {H H' : Hp}
theorem Im.stab (ht : ∀ b xs, TupR H b xs → TupR H' b xs) (d : PyData) (v : V) (fp : List Addr) (h : Im K H v d fp) : (∀ b ∈ fp, ∀ o, H b = some o → Mtb o → H' b = some o) → Im K H' v d fp := by
  refine Im.rec (motive_1 := fun v d fp _ => (∀ b ∈ fp, ∀ o, H b = some o → Mtb o → H' b = some o) → Im K H' v d fp) (motive_2 := fun vs ds fp _ => (∀ b ∈ fp, ∀ o, H b = some o → Mtb o → H' b = some o) → ImA K H' vs ds fp) ?_ ?_ ?_ ?_ ?_ ?_ ?_ ?_ ?_ ?_ h
  · exact fun _ => .non
  · exact fun b _ => .bl b
  · exact fun b _ => .int b
  · exact fun b _ => .str b
  · rintro a xs ds fp fq e _ q ih hl
    subst q
    exact .lst (hl _ List.mem_cons_self _ e trivial) (ih fun b hb => hl b (List.mem_cons_of_mem _ hb)) rfl
  · exact fun e _ ih hl => .tup (ht _ _ e) (ih hl)
  · rintro a kvs ps ds fp fq e e1 e2 _ q ih hl
    subst q
    exact .dicK (hl _ List.mem_cons_self _ e trivial) e1 e2 (ih fun b hb => hl b (List.mem_cons_of_mem _ hb)) rfl
  · rintro a kvs ps ds fp fq e e1 e2 _ q ih hl
    subst q
    exact .dicT (hl _ List.mem_cons_self _ e trivial) e1 e2 (ih fun b hb => hl b (List.mem_cons_of_mem _ hb)) rfl
  · exact fun _ => .nil
  · rintro v vs d ds fp fq fr _ _ q ih1 ih2 hl
    subst q
    exact .cons (ih1 fun x hx => hl x (List.mem_append_left _ hx)) (ih2 fun x hx => hl x (List.mem_append_right _ hx)) rfl
theorem ImA.stab (ht : ∀ b xs, TupR H b xs → TupR H' b xs) : ∀ (ds : List PyData) (vs : List V) (fp : List Addr), ImA K H vs ds fp → (∀ b ∈ fp, ∀ o, H b = some o → Mtb o → H' b = some o) → ImA K H' vs ds fp
  | [], _, _, h, _ => by cases h; exact .nil
  | d :: ds, _, _, h, hl => by
    cases h with
    | cons a b q =>
      subst q
      exact .cons (Im.stab ht d _ _ a fun x hx => hl x (List.mem_append_left _ hx)) (ImA.stab ht ds _ _ b fun x hx => hl x (List.mem_append_right _ hx)) rfl
theorem hasDict_all {d : PyData} {ds : List PyData} (h : PyData.hasDictAll (d :: ds) = false) : d.hasDict = false ∧ PyData.hasDictAll ds = false := by
  have h : (PyData.hasDict d || PyData.hasDictAll ds) = false := h
  exact Bool.or_eq_false_iff.mp h
mutual
theorem Im.dpD : ∀ (d : PyData) (v : V) (fp : List Addr), Im K H v d fp → d.hasDict = false → Dp K H v d
  | .none, _, _, h, _ => by cases h; exact .non
  | .bool b, _, _, h, _ => by cases h; exact .bl b
  | .int b, _, _, h, _ => by cases h; exact .int b
  | .str b, _, _, h, _ => by cases h; exact .str b
  | .list ds, _, _, h, z => by
    cases h with
    | lst e a q => exact .lst (.inl (.inl e)) (ImA.dpD ds _ _ a z)
  | .tuple ds, _, _, h, z => by
    cases h with
    | tup e a => exact .tup e.q (ImA.dpD ds _ _ a z)
  | .dict kvs, _, _, h, z => by cases z
theorem ImA.dpD : ∀ (ds : List PyData) (vs : List V) (fp : List Addr), ImA K H vs ds fp → PyData.hasDictAll ds = false → DpAll K H vs ds
  | [], _, _, h, _ => by cases h; exact .nil
  | d :: ds, _, _, h, z => by
    cases h with
    | cons a b q => exact .cons (Im.dpD d _ _ a (hasDict_all z).1) (ImA.dpD ds _ _ b (hasDict_all z).2)
end
/-- each list, dict of it stands -/
theorem Im.mtb (d : PyData) (v : V) (fp : List Addr) (h : Im K H v d fp) : ∀ b ∈ fp, ∃ o, H b = some o ∧ Mtb o := by
  refine Im.rec (motive_1 := fun v d fp _ => ∀ b ∈ fp, ∃ o, H b = some o ∧ Mtb o) (motive_2 := fun vs ds fp _ => ∀ b ∈ fp, ∃ o, H b = some o ∧ Mtb o) ?_ ?_ ?_ ?_ ?_ ?_ ?_ ?_ ?_ ?_ h
  · exact fun b hb => absurd hb List.not_mem_nil
  · exact fun _ b hb => absurd hb List.not_mem_nil
  · exact fun _ b hb => absurd hb List.not_mem_nil
  · exact fun _ b hb => absurd hb List.not_mem_nil
  · rintro a xs ds fp fq e _ q ih b hb
    subst q
    rcases List.mem_cons.mp hb with rfl | hb
    · exact ⟨_, e, trivial⟩
    · exact ih b hb
  · exact fun e _ ih => ih
  · rintro a kvs ps ds fp fq e e1 e2 _ q ih b hb
    subst q
    rcases List.mem_cons.mp hb with rfl | hb
    · exact ⟨_, e, trivial⟩
    · exact ih b hb
  · rintro a kvs ps ds fp fq e e1 e2 _ q ih b hb
    subst q
    rcases List.mem_cons.mp hb with rfl | hb
    · exact ⟨_, e, trivial⟩
    · exact ih b hb
  · exact fun b hb => absurd hb List.not_mem_nil
  · rintro v vs d ds fp fq fr _ _ q ih1 ih2 b hb
    subst q
    rcases List.mem_append.mp hb with hb | hb
    · exact ih1 b hb
    · exact ih2 b hb
theorem Mtb.tbl {o : HO} (h : Mtb o) : ∀ ps, o ≠ .tbl ps := fun ps e => by subst e; exact h
theorem Mtb.tup {o : HO} (h : Mtb o) : ∀ ps, o ≠ .tup ps := fun ps e => by subst e; exact h
theorem ImA.len : ∀ {ds : List PyData} {vs : List V} {fp : List Addr}, ImA K H vs ds fp → vs.length = ds.length
  | [], _, _, h => by cases h; rfl
  | d :: ds, _, _, h => by
    cases h with
    | cons a b q => rw [List.length_cons, List.length_cons, ImA.len b]
theorem ImA.app : ∀ {ds es : List PyData} {vs ws : List V} {fp fq : List Addr}, ImA K H vs ds fp → ImA K H ws es fq → ImA K H (vs ++ ws) (ds ++ es) (fp ++ fq)
  | [], _, _, _, _, _, h, g => by cases h; exact g
  | d :: ds, _, _, _, _, _, h, g => by
    cases h with
    | cons a b q =>
      subst q
      exact .cons a (ImA.app b g) (List.append_assoc _ _ _)
theorem ImA.get : ∀ {ds : List PyData} {vs : List V} {fp : List Addr} {i : Nat} {d : PyData}, ImA K H vs ds fp → ds[i]? = some d → ∃ v fq, vs[i]? = some v ∧ Im K H v d fq ∧ ∀ b ∈ fq, b ∈ fp
  | [], _, _, _, _, h, e => by cases e
  | d :: ds, _, _, 0, _, h, e => by
    cases h with
    | cons a b q =>
      subst q
      obtain rfl : d = _ := Option.some.inj e
      exact ⟨_, _, rfl, a, fun b hb => List.mem_append_left _ hb⟩
  | d :: ds, _, _, i + 1, _, h, e => by
    cases h with
    | cons a b q =>
      subst q
      obtain ⟨v, fq, h1, h2, h3⟩ := ImA.get b e
      exact ⟨v, fq, h1, h2, fun b hb => List.mem_append_right _ (h3 b hb)⟩
end
/-! ### kinds of data -/
class Enc (α : Type) where
  en : α → PyData
abbrev enc {α : Type} [Enc α] (a : α) : PyData := Enc.en a
class Pu (α : Type) [Enc α] : Prop where
  pu : ∀ {K : PySem.W.Frag} {H : Hp} {v : V} {a : α} {fp : List Addr}, Im K H v (enc a) fp → fp = []
instance : Enc Nat := ⟨fun n => .int (n : Int)⟩
instance : Enc Int := ⟨fun n => .int n⟩
instance : Enc Bool := ⟨fun n => .bool n⟩
instance : Enc Unit := ⟨fun _ => .none⟩
instance : Enc Str := ⟨fun x => .str x⟩
instance {α : Type} [Enc α] : Enc (Option α) := ⟨fun x => match x with | none => .none | some a => enc a⟩
instance {α β : Type} [Enc α] [Enc β] : Enc (α × β) := ⟨fun x => .tuple [enc x.1, enc x.2]⟩
structure T3 (α β γ : Type) where
  a : α
  b : β
  c : γ
structure T4 (α β γ δ : Type) where
  a : α
  b : β
  c : γ
  d : δ
instance {α β γ : Type} [Enc α] [Enc β] [Enc γ] : Enc (T3 α β γ) := ⟨fun x => .tuple [enc x.a, enc x.b, enc x.c]⟩
instance {α β γ δ : Type} [Enc α] [Enc β] [Enc γ] [Enc δ] : Enc (T4 α β γ δ) := ⟨fun x => .tuple [enc x.a, enc x.b, enc x.c, enc x.d]⟩
/-- a tuple of equals in kind -/
instance {α : Type} [Enc α] : Enc (List α) := ⟨fun x => .tuple (x.map enc)⟩
/-- a list -/
structure Lst (α : Type) where
  l : List α
instance {α : Type} [Enc α] : Enc (Lst α) := ⟨fun x => .list (x.l.map enc)⟩
instance : Pu Nat := ⟨fun h => by cases h; rfl⟩
instance : Pu Int := ⟨fun h => by cases h; rfl⟩
instance : Pu Bool := ⟨fun h => by cases h; rfl⟩
instance : Pu Unit := ⟨fun h => by cases h; rfl⟩
instance : Pu Str := ⟨fun h => by cases h; rfl⟩
instance {α : Type} [Enc α] [Pu α] : Pu (Option α) := ⟨fun {K H v a fp} h => by
  cases a with
  | none => cases h; rfl
  | some a => exact Pu.pu (a := a) h⟩
theorem ima1 {K : PySem.W.Frag} {H : Hp} {vs : List V} {d : PyData} {fp : List Addr} (h : ImA K H vs [d] fp) : ∃ v, vs = [v] ∧ Im K H v d fp := by
  cases h with
  | cons a b q =>
    cases b
    subst q
    rw [List.append_nil]
    exact ⟨_, rfl, a⟩
theorem ima2 {K : PySem.W.Frag} {H : Hp} {vs : List V} {d e : PyData} {fp : List Addr} (h : ImA K H vs [d, e] fp) : ∃ v w f1 f2, vs = [v, w] ∧ Im K H v d f1 ∧ Im K H w e f2 ∧ fp = f1 ++ f2 := by
  cases h with
  | cons a b q =>
    obtain ⟨w, rfl, hw⟩ := ima1 b
    exact ⟨_, w, _, _, rfl, a, hw, q⟩
theorem ima3 {K : PySem.W.Frag} {H : Hp} {vs : List V} {d e f : PyData} {fp : List Addr} (h : ImA K H vs [d, e, f] fp) : ∃ v w u f1 f2 f3, vs = [v, w, u] ∧ Im K H v d f1 ∧ Im K H w e f2 ∧ Im K H u f f3 ∧ fp = f1 ++ (f2 ++ f3) := by
  cases h with
  | cons a b q =>
    obtain ⟨w, u, f2, f3, rfl, hw, hu, e⟩ := ima2 b
    exact ⟨_, w, u, _, _, _, rfl, a, hw, hu, by rw [q, e]⟩
theorem ima4 {K : PySem.W.Frag} {H : Hp} {vs : List V} {d e f g : PyData} {fp : List Addr} (h : ImA K H vs [d, e, f, g] fp) : ∃ v w u x f1 f2 f3 f4, vs = [v, w, u, x] ∧ Im K H v d f1 ∧ Im K H w e f2 ∧ Im K H u f f3 ∧ Im K H x g f4 ∧ fp = f1 ++ (f2 ++ (f3 ++ f4)) := by
  cases h with
  | cons a b q =>
    obtain ⟨w, u, x, f2, f3, f4, rfl, hw, hu, hx, e⟩ := ima3 b
    exact ⟨_, w, u, x, _, _, _, _, rfl, a, hw, hu, hx, by rw [q, e]⟩
instance {α β : Type} [Enc α] [Enc β] [Pu α] [Pu β] : Pu (α × β) := ⟨fun {K H v a fp} h => by
  cases h with
  | tup e b =>
    obtain ⟨v, w, f1, f2, rfl, h1, h2, rfl⟩ := ima2 b
    rw [Pu.pu h1, Pu.pu h2]; rfl⟩
instance {α β γ : Type} [Enc α] [Enc β] [Enc γ] [Pu α] [Pu β] [Pu γ] : Pu (T3 α β γ) := ⟨fun {K H v a fp} h => by
  cases h with
  | tup e b =>
    obtain ⟨v, w, u, f1, f2, f3, rfl, h1, h2, h3, rfl⟩ := ima3 b
    rw [Pu.pu h1, Pu.pu h2, Pu.pu h3]; rfl⟩
instance {α β γ δ : Type} [Enc α] [Enc β] [Enc γ] [Enc δ] [Pu α] [Pu β] [Pu γ] [Pu δ] : Pu (T4 α β γ δ) := ⟨fun {K H v a fp} h => by
  cases h with
  | tup e b =>
    obtain ⟨v, w, u, x, f1, f2, f3, f4, rfl, h1, h2, h3, h4, rfl⟩ := ima4 b
    rw [Pu.pu h1, Pu.pu h2, Pu.pu h3, Pu.pu h4]; rfl⟩
theorem ima_pu {α : Type} [Enc α] [Pu α] {K : PySem.W.Frag} {H : Hp} : ∀ {xs : List α} {vs : List V} {fp : List Addr}, ImA K H vs (xs.map enc) fp → fp = []
  | [], _, _, h => by cases h; rfl
  | x :: xs, _, _, h => by
    cases h with
    | cons a b q => rw [q, Pu.pu a, ima_pu b]; rfl
instance {α : Type} [Enc α] [Pu α] : Pu (List α) := ⟨fun {K H v a fp} h => by
  cases h with
  | tup e b => exact ima_pu b⟩
/-! ## heaps -/
structure Fr (K : PySem.W.Frag) (po : Option Addr) (H H' : Hp) : Prop where
  keep : ∀ b o, po ≠ some b → H b = some o → (∀ ps, o ≠ .tbl ps) → H' b = some o
  tup : ∀ b xs, TupR H b xs → TupR H' b xs
section
variable {K : PySem.W.Frag} {po : Option Addr} {H H1 H' : Hp} {T : List (Addr × Str)} {n n1 n' : Nat}
theorem Fr.refl : Fr K po H H := ⟨fun _ _ _ h _ => h, fun _ _ h => h⟩
theorem Fr.trans (x : Fr K po H H1) (y : Fr K po H1 H') : Fr K po H H' := ⟨fun b o p h t => y.keep b o p (x.keep b o p h t) t, fun b xs h => y.tup b xs (x.tup b xs h)⟩
theorem Fr.same (s : Same H H') : Fr K po H H' := ⟨fun b o _ h _ => s b o h, fun _ _ h => s _ _ h⟩
theorem Fr.ext (s : ExtN H H') : Fr K po H H' := ⟨fun b o _ h t => s b o h t, fun _ _ h => s _ _ h fun ps z => nomatch z⟩
theorem Fr.weak (x : Fr K none H H') : Fr K po H H' := ⟨fun b o _ h t => x.keep b o (by simp) h t, x.tup⟩
theorem Fr.keeps {a : Addr} {l : List V} (ha : H a = some (.lst l)) (k : Keeps a H H') : Fr K (some a) H H' := ⟨fun b o p h _ => k b o (fun e => p (by rw [e])) h, fun _ _ h => k _ _ (fun e => by unfold TupR at h; rw [e, ha] at h; cases h) h⟩
structure Af (K : PySem.W.Frag) (T : List (Addr × Str)) (po : Option Addr) (H : Hp) (n : Nat) (H' : Hp) (n' : Nat) : Prop where
  fr : Fr K po H H'
  tabs : Tabs T H → Tabs T H'
  pot : ∀ a, po = some a → Pot H a n → Pot H' a n'
theorem Af.refl : Af K T po H n H n := ⟨Fr.refl, id, fun _ _ h => h⟩
theorem Af.trans (x : Af K T po H n H1 n1) (y : Af K T po H1 n1 H' n') : Af K T po H n H' n' := ⟨x.fr.trans y.fr, fun t => y.tabs (x.tabs t), fun a e p => y.pot a e (x.pot a e p)⟩
theorem Af.same (s : Same H H') : Af K T po H n H' n := ⟨Fr.same s, fun t => t.ext s, fun a e p => p.same s⟩
theorem Af.new {p : Addr} {o : HO} (np : H p = none) : Af K T po H n (upd H p o) n := Af.same (same_new (Same.refl H) np)
def Fsh (H : Hp) (b : Addr) : Prop := ∀ o, H b = some o → ∃ ps, o = .tbl ps
def Fp (H : Hp) (po : Option Addr) (fr : Bool) (fp : List Addr) : Prop := (∀ b ∈ fp, po ≠ some b) ∧ (fr = true → fp.Nodup ∧ ∀ b ∈ fp, Fsh H b)
theorem Fp.nil {fr : Bool} : Fp H po fr [] := ⟨fun b h => absurd h List.not_mem_nil, fun _ => ⟨List.nodup_nil, fun b h => absurd h List.not_mem_nil⟩⟩
theorem Fsh.back {b : Addr} (f : Fr K po H H') (hb : po ≠ some b) (h : Fsh H' b) : Fsh H b := fun o e => by
  by_cases z : ∃ ps, o = .tbl ps
  · exact z
  · exact h o (f.keep b o hb e fun ps q => z ⟨ps, q⟩)
theorem Fp.back {fr : Bool} {fp : List Addr} (f : Fr K po H H') (h : Fp H' po fr fp) : Fp H po fr fp := ⟨h.1, fun e => ⟨(h.2 e).1, fun b hb => Fsh.back f (h.1 b hb) ((h.2 e).2 b hb)⟩⟩
theorem Fp.weak {fr : Bool} {fp : List Addr} (h : Fp H po fr fp) : Fp H po false fp := ⟨h.1, fun e => nomatch e⟩
theorem Im.af {v : V} {d : PyData} {fp : List Addr} (h : Im K H v d fp) (hp : ∀ b ∈ fp, po ≠ some b) (f : Fr K po H H') : Im K H' v d fp := Im.stab f.tup d v fp h fun b hb o e m => f.keep b _ (hp b hb) e m.tbl
theorem ImA.af {vs : List V} {ds : List PyData} {fp : List Addr} (h : ImA K H vs ds fp) (hp : ∀ b ∈ fp, po ≠ some b) (f : Fr K po H H') : ImA K H' vs ds fp := ImA.stab f.tup ds vs fp h fun b hb o e m => f.keep b _ (hp b hb) e m.tbl
theorem Im.same {v : V} {d : PyData} {fp : List Addr} (h : Im K H v d fp) (s : Same H H') : Im K H' v d fp := h.af (po := none) (fun b _ => by simp) (Fr.same s)
theorem ImA.same {vs : List V} {ds : List PyData} {fp : List Addr} (h : ImA K H vs ds fp) (s : Same H H') : ImA K H' vs ds fp := h.af (po := none) (fun b _ => by simp) (Fr.same s)
end
/-! ## what the slots hold -/
inductive Sl where
  | any
  | pot
  | bor (d : PyData)
  | own (d : PyData)
  | scr (ns : List Int)
  | lkd (d : PyData)
/-- a list that stands from the start on, whatever is done -/
def ScrOk (K : PySem.W.Frag) (Bs : Addr → HO → Prop) (a : Addr) (vs : List V) : Prop := (∃ o, Bs a o ∧ (o = .lst vs ∨ ∃ z, o = .frz z (.lst vs))) ∨
  ∃ (o : Obj) (its : Array Value) (n : Nat), K.lookup a = some o ∧ o.cls = .type "list" ∧ o.dict = none ∧ o.data = .seq its n ∧ its.size ≤ sizeLine ∧ Vals vs its.toList
/-- what a dict holds, flat values only -/
def DcOk (K : PySem.W.Frag) (H : Hp) (u : HO) (d : PyData) : Prop := (∃ kvs ps, u = .dK kvs ∧ d = .dict ps ∧ ps.map Prod.fst = kvs.map (fun kv => kD kv.1) ∧ ImA K H (kvs.map Prod.snd) (ps.map Prod.snd) []) ∨
  ∃ kvs ps, u = .dT kvs ∧ d = .dict ps ∧ ps.map Prod.fst = kvs.map (fun kv => .tuple (kv.1.map kD)) ∧ ImA K H (kvs.map Prod.snd) (ps.map Prod.snd) []
theorem DcOk.af {K : PySem.W.Frag} {po : Option Addr} {H H' : Hp} {u : HO} {d : PyData} (h : DcOk K H u d) (f : Fr K po H H') : DcOk K H' u d := by
  rcases h with ⟨kvs, ps, h1, h2, h3, h4⟩ | ⟨kvs, ps, h1, h2, h3, h4⟩
  · exact .inl ⟨kvs, ps, h1, h2, h3, h4.af (po := po) (fun b hb => absurd hb List.not_mem_nil) f⟩
  · exact .inr ⟨kvs, ps, h1, h2, h3, h4.af (po := po) (fun b hb => absurd hb List.not_mem_nil) f⟩
def SlOk (K : PySem.W.Frag) (Bs : Addr → HO → Prop) (po : Option Addr) (H : Hp) (ov : Option (Option V)) (s : Sl) (fp : List Addr) : Prop := match s with
  | .any => True
  | .pot => ∃ a, po = some a ∧ ov = some (some (.ref a))
  | .bor d => ∃ v, ov = some (some v) ∧ Im K H v d fp ∧ ∀ b ∈ fp, po ≠ some b ∧ ∃ o, Bs b o
  | .own d => ∃ v, ov = some (some v) ∧ Im K H v d fp ∧ fp.Nodup ∧ ∀ b ∈ fp, po ≠ some b ∧ ∀ o, ¬ Bs b o
  | .scr ns => ∃ a, ov = some (some (.ref a)) ∧ ScrOk K Bs a (ns.map V.int)
  | .lkd d => ∃ a od u, ov = some (some (.ref a)) ∧ po ≠ some a ∧ H a = some (.frz od u) ∧ DcOk K H u d
structure ST (K : PySem.W.Frag) (T : List (Addr × Str)) (Bs : Addr → HO → Prop) (po : Option Addr) (ρ : List Sl) (φ : Nat → List Addr) (σ : L2.St) (H : Hp) (n : Nat) : Prop where
  tabs : Tabs T H
  base : ∀ b o, Bs b o → H b = some o ∧ (∀ ps, o ≠ .tbl ps) ∧ po ≠ some b
  pot : ∀ a, po = some a → Pot H a n
  len : σ.length = ρ.length
  sl : ∀ i s, ρ[i]? = some s → SlOk K Bs po H σ[i]? s (φ i)
  dis : ∀ i j d e, i ≠ j → ρ[i]? = some (.own d) → ρ[j]? = some (.own e) → ∀ b ∈ φ i, b ∉ φ j
def STe (K : PySem.W.Frag) (T : List (Addr × Str)) (Bs : Addr → HO → Prop) (po : Option Addr) (ρ : List Sl) (σ : L2.St) (H : Hp) (n : Nat) : Prop := ∃ φ, ST K T Bs po ρ φ σ H n
section
variable {K : PySem.W.Frag} {T : List (Addr × Str)} {Bs : Addr → HO → Prop} {po : Option Addr} {ρ : List Sl} {φ : Nat → List Addr} {σ : L2.St} {H H' : Hp} {n n' : Nat}
theorem SlOk.af {ov : Option (Option V)} {s : Sl} {fp : List Addr} (h : SlOk K Bs po H ov s fp) (f : Fr K po H H') : SlOk K Bs po H' ov s fp := by
  cases s with
  | any => exact h
  | pot => exact h
  | scr ns => exact h
  | lkd d => obtain ⟨a, od, u, h1, h2, h3, h4⟩ := h; exact ⟨a, od, u, h1, h2, f.keep a _ h2 h3 (fun ps z => nomatch z), h4.af f⟩
  | bor d => obtain ⟨v, h1, h2, h3⟩ := h; exact ⟨v, h1, h2.af (fun b hb => (h3 b hb).1) f, h3⟩
  | own d => obtain ⟨v, h1, h2, h3, h4⟩ := h; exact ⟨v, h1, h2.af (fun b hb => (h4 b hb).1) f, h3, h4⟩
theorem ST.af (h : ST K T Bs po ρ φ σ H n) (a : Af K T po H n H' n') : ST K T Bs po ρ φ σ H' n' where
  tabs := a.tabs h.tabs
  base := fun b o z => by
    obtain ⟨h1, h2, h3⟩ := h.base b o z
    exact ⟨a.fr.keep b o h3 h1 h2, h2, h3⟩
  pot := fun p e => a.pot p e (h.pot p e)
  len := h.len
  sl := fun i s e => (h.sl i s e).af a.fr
  dis := h.dis
theorem pot_lst {a : Addr} (h : Pot H a n) : ∃ l, H a = some (.lst l) := let ⟨_, _, _, e, _⟩ := h; ⟨_, e⟩
/-- something new is not the pot, nor in what slots hold -/
theorem ST.fresh_pot (h : ST K T Bs po ρ φ σ H n) {b : Addr} (f : Fsh H b) : po ≠ some b := fun e => by
  obtain ⟨l, hl⟩ := pot_lst (h.pot b e)
  obtain ⟨ps, z⟩ := f _ hl
  cases z
theorem ST.fresh_bs (h : ST K T Bs po ρ φ σ H n) {b : Addr} (f : Fsh H b) : ∀ o, ¬ Bs b o := fun o z => by
  obtain ⟨h1, h2, h3⟩ := h.base b o z
  obtain ⟨ps, q⟩ := f _ h1
  exact h2 ps q
theorem ST.fresh_own (h : ST K T Bs po ρ φ σ H n) {b : Addr} (f : Fsh H b) {i : Nat} {d : PyData} (e : ρ[i]? = some (.own d)) : b ∉ φ i := fun z => by
  obtain ⟨v, h1, h2, h3, h4⟩ := h.sl i _ e
  obtain ⟨l, hl, hm⟩ := Im.mtb _ _ _ h2 b z
  obtain ⟨ps, q⟩ := f _ hl
  exact hm.tbl ps q
/-- a slot is set to something new -/
theorem ST.set (h : ST K T Bs po ρ φ σ H n) (a : Af K T po H n H' n') {i : Nat} (hi : i < ρ.length) {v : V} {d : PyData} {fp : List Addr} (hv : Im K H' v d fp) (hf : Fp H po true fp) :
    ST K T Bs po (ρ.set i (.own d)) (fun j => if j = i then fp else φ j) (σ.set i (some v)) H' n' := by
  have h' := h.af a
  obtain ⟨hp, hn⟩ := hf
  obtain ⟨hnd, hfs⟩ := hn rfl
  refine ⟨h'.tabs, h'.base, h'.pot, by rw [List.length_set, List.length_set, h.len], fun j s e => ?_, fun j k d1 e1 hjk ej ek => ?_⟩
  · rw [List.getElem?_set] at e ⊢
    by_cases hij : i = j
    · subst hij
      rw [if_pos rfl, if_pos hi] at e
      obtain rfl : Sl.own d = s := Option.some.inj e
      rw [if_pos rfl, if_pos (by rw [h.len]; exact hi)]
      show SlOk K Bs po H' _ _ (if i = i then fp else φ i)
      rw [if_pos rfl]
      exact ⟨v, rfl, hv, hnd, fun b hb => ⟨hp b hb, h.fresh_bs (hfs b hb)⟩⟩
    · rw [if_neg hij] at e ⊢
      show SlOk K Bs po H' _ _ (if j = i then fp else φ j)
      rw [if_neg (Ne.symm hij)]
      exact h'.sl j s e
  · show ∀ b ∈ (if j = i then fp else φ j), b ∉ (if k = i then fp else φ k)
    rw [List.getElem?_set] at ej ek
    by_cases hji : i = j
    · subst hji
      rw [if_pos rfl]
      rw [if_neg hjk] at ek
      rw [if_neg (Ne.symm hjk)]
      exact fun b hb => h.fresh_own (hfs b hb) ek
    · rw [if_neg hji] at ej
      rw [if_neg (Ne.symm hji)]
      by_cases hki : i = k
      · subst hki
        rw [if_pos rfl]
        exact fun b hb z => h.fresh_own (hfs b z) ej hb
      · rw [if_neg hki] at ek
        rw [if_neg (Ne.symm hki)]
        exact h.dis j k d1 e1 hjk ej ek
/-- less is known -/
inductive SlLe : Sl → Sl → Prop
  | any (s : Sl) : SlLe .any s
  | eq (s : Sl) : SlLe s s
def RhoLe : List Sl → List Sl → Prop
  | [], [] => True
  | s :: ss, t :: ts => SlLe s t ∧ RhoLe ss ts
  | _, _ => False
theorem RhoLe.refl : ∀ ρ : List Sl, RhoLe ρ ρ
  | [] => trivial
  | s :: ss => ⟨.eq s, RhoLe.refl ss⟩
theorem RhoLe.len : ∀ {ρ1 ρ2 : List Sl}, RhoLe ρ1 ρ2 → ρ1.length = ρ2.length
  | [], [], _ => rfl
  | s :: ss, t :: ts, h => by rw [List.length_cons, List.length_cons, RhoLe.len h.2]
theorem RhoLe.get : ∀ {ρ1 ρ2 : List Sl}, RhoLe ρ1 ρ2 → ∀ {i : Nat} {s : Sl}, ρ1[i]? = some s → ∃ t, ρ2[i]? = some t ∧ SlLe s t
  | [], [], _, _, _, e => by cases e
  | s :: ss, t :: ts, h, 0, _, e => by
    obtain rfl : s = _ := Option.some.inj e
    exact ⟨t, rfl, h.1⟩
  | s :: ss, t :: ts, h, i + 1, _, e => RhoLe.get h.2 (i := i) e
theorem ST.le {ρ1 : List Sl} (h : ST K T Bs po ρ φ σ H n) (l : RhoLe ρ1 ρ) : ST K T Bs po ρ1 φ σ H n where
  tabs := h.tabs
  base := h.base
  pot := h.pot
  len := h.len.trans l.len.symm
  sl := fun i s e => by
    obtain ⟨t, h1, h2⟩ := l.get e
    cases h2 with
    | any => trivial
    | eq => exact h.sl i _ h1
  dis := fun i j d e hij ei ej => by
    obtain ⟨t, h1, h2⟩ := l.get ei
    obtain ⟨u, h3, h4⟩ := l.get ej
    cases h2
    cases h4
    exact h.dis i j d e hij h1 h3
/-- an own list is only read from now on -/
theorem ST.freeze (h : ST K T Bs po ρ φ σ H n) {i : Nat} {d : PyData} (hi : ρ[i]? = some (.own d)) :
    ST K T (fun b o => Bs b o ∨ (b ∈ φ i ∧ H b = some o)) po (ρ.set i (.bor d)) φ σ H n := by
  obtain ⟨v, h1, h2, h3, h4⟩ := h.sl i _ hi
  have hil := (List.getElem?_eq_some_iff.mp hi).1
  refine ⟨h.tabs, fun b o z => ?_, h.pot, by rw [List.length_set]; exact h.len, fun j s e => ?_, fun j k d1 e1 hjk ej ek => ?_⟩
  · rcases z with z | ⟨z, e⟩
    · exact h.base b o z
    · obtain ⟨l, hl, hm⟩ := Im.mtb _ _ _ h2 b z
      rw [e] at hl
      cases hl
      exact ⟨e, hm.tbl, (h4 b z).1⟩
  · rw [List.getElem?_set] at e
    by_cases hij : i = j
    · subst hij
      rw [if_pos rfl, if_pos hil] at e
      obtain rfl : Sl.bor d = s := Option.some.inj e
      refine ⟨v, h1, h2, fun b hb => ⟨(h4 b hb).1, ?_⟩⟩
      obtain ⟨l, hl, _⟩ := Im.mtb _ _ _ h2 b hb
      exact ⟨_, .inr ⟨hb, hl⟩⟩
    · rw [if_neg hij] at e
      have z := h.sl j s e
      cases s with
      | any => trivial
      | pot => exact z
      | scr ns => obtain ⟨a, z1, z2⟩ := z; exact ⟨a, z1, z2.elim (fun ⟨o, q1, q2⟩ => .inl ⟨o, .inl q1, q2⟩) .inr⟩
      | lkd d' => exact z
      | bor d' => obtain ⟨v', z1, z2, z3⟩ := z; exact ⟨v', z1, z2, fun b hb => ⟨(z3 b hb).1, let ⟨o, q⟩ := (z3 b hb).2; ⟨o, .inl q⟩⟩⟩
      | own d' =>
        obtain ⟨v', z1, z2, z3, z4⟩ := z
        refine ⟨v', z1, z2, z3, fun b hb => ⟨(z4 b hb).1, fun o q => ?_⟩⟩
        rcases q with q | ⟨q, _⟩
        · exact (z4 b hb).2 o q
        · exact h.dis i j d d' hij hi e b q hb
  · rw [List.getElem?_set] at ej ek
    by_cases hij : i = j
    · rw [if_pos hij] at ej
      split at ej
      · cases ej
      · cases ej
    · rw [if_neg hij] at ej
      by_cases hik : i = k
      · rw [if_pos hik] at ek
        split at ek
        · cases ek
        · cases ek
      · rw [if_neg hik] at ek
        exact h.dis j k d1 e1 hjk ej ek
end
end Bf
namespace Bf
open PySem PySem.Spec PyProof.Rows L2 LamX NdefX
/-! ## what must hold for an answer, the count of draws with it -/
abbrev M (α : Type) := Nat → (α → Nat → Prop) → Prop
def retW {α : Type} (a : α) : M α := fun n P => P a n
def bindW {α β : Type} (m : M α) (k : α → M β) : M β := fun n P => m n fun a n' => k a n' P
def reqW {α : Type} (c : Prop) (m : M α) : M α := fun n P => c ∧ m n P
def pureW {α : Type} (m : M α) : M α := fun n P => m 0 fun a _ => P a n
def b2W {α β γ : Type} (ma : M α) (mb : M β) (f : α → β → M γ) : M γ := fun n P => ma n fun a n1 => mb n1 fun b n2 => f a b n2 P
section
variable {K : PySem.W.Frag} {T : List (Addr × Str)} {ρ : List Sl}
variable {α β γ : Type} [Enc α] [Enc β] [Enc γ]
def RE (K : PySem.W.Frag) (T : List (Addr × Str)) (t : TE) (ρ : List Sl) (fr : Bool) {α : Type} [Enc α] (m : M α) : Prop := ∀ (Bs : Addr → HO → Prop) (po : Option Addr) (φ : Nat → List Addr) (σ : L2.St) (H : Hp) (n : Nat), ST K T Bs po ρ φ σ H n → ∀ P : α → Nat → Prop, m n P →
  ∀ Q : VK, (∀ (a : α) (n' : Nat) (v : V) (H' : Hp) (fp : List Addr), P a n' → Af K T po H n H' n' → Im K H' v (enc a) fp → Fp H po fr fp → Q v H') → t σ H Q
def RT (K : PySem.W.Frag) (T : List (Addr × Str)) (t : TT) (ρ : List Sl) (m : M Bool) : Prop := ∀ (Bs : Addr → HO → Prop) (po : Option Addr) (φ : Nat → List Addr) (σ : L2.St) (H : Hp) (n : Nat), ST K T Bs po ρ φ σ H n → ∀ P : Bool → Nat → Prop, m n P →
  ∀ Q : Bool → Hp → Prop, (∀ (a : Bool) (n' : Nat) (H' : Hp), P a n' → Af K T po H n H' n' → Q a H') → t σ H Q
theorem RE.weak {t : TE} {fr : Bool} {m : M α} (h : RE K T t ρ fr m) : RE K T t ρ false m := fun Bs po φ σ H n st P p Q q => h Bs po φ σ H n st P p Q fun a n' v H' fp pa af im f => q a n' v H' fp pa af im f.weak
theorem RE.pu [Pu α] {t : TE} {fr : Bool} {m : M α} (h : RE K T t ρ fr m) : RE K T t ρ true m := fun Bs po φ σ H n st P p Q q => h Bs po φ σ H n st P p Q fun a n' v H' fp pa af im f => q a n' v H' fp pa af im (by rw [Pu.pu im]; exact Fp.nil)
/-! ### names, written values -/
theorem re_own {i : Nat} {a : α} (hi : ρ[i]? = some (.own (enc a))) : RE K T (tVar i) ρ false (retW a) := fun Bs po φ σ H n st P p Q q => by
  obtain ⟨v, h1, h2, h3, h4⟩ := st.sl i _ hi
  exact ⟨v, h1, q a n v H _ p Af.refl h2 ⟨fun b hb => (h4 b hb).1, fun e => nomatch e⟩⟩
theorem re_bor {i : Nat} {a : α} (hi : ρ[i]? = some (.bor (enc a))) : RE K T (tVar i) ρ false (retW a) := fun Bs po φ σ H n st P p Q q => by
  obtain ⟨v, h1, h2, h3⟩ := st.sl i _ hi
  exact ⟨v, h1, q a n v H _ p Af.refl h2 ⟨fun b hb => (h3 b hb).1, fun e => nomatch e⟩⟩
theorem re_v [Pu α] {i : Nat} {a : α} (hi : ρ[i]? = some (.own (enc a))) : RE K T (tVar i) ρ true (retW a) := (re_own hi).pu
theorem re_nat (k : Nat) : RE K T (tC (.int (k : Int))) ρ true (retW k) := fun Bs po φ σ H n st P p Q q => q k n _ H [] p Af.refl (.int _) Fp.nil
theorem re_int (k : Int) : RE K T (tC (.int k)) ρ true (retW k) := fun Bs po φ σ H n st P p Q q => q k n _ H [] p Af.refl (.int _) Fp.nil
theorem re_bool (k : Bool) : RE K T (tC (.bl k)) ρ true (retW k) := fun Bs po φ σ H n st P p Q q => q k n _ H [] p Af.refl (.bl _) Fp.nil
theorem re_none : RE K T (tC .non) ρ true (retW (none : Option α)) := fun Bs po φ σ H n st P p Q q => q none n _ H [] p Af.refl .non Fp.nil
theorem re_unit : RE K T (tC .non) ρ true (retW ()) := fun Bs po φ σ H n st P p Q q => q () n _ H [] p Af.refl .non Fp.nil
theorem re_str (x : Str) : RE K T (tC (.str x)) ρ true (retW x) := fun Bs po φ σ H n st P p Q q => q x n _ H [] p Af.refl (.str _) Fp.nil
/-- the same value as another kind of data -/
def mapW (f : α → β) (m : M α) : M β := bindW m fun a => retW (f a)
theorem re_as {t : TE} {fr : Bool} {m : M α} (f : α → β) (hf : ∀ a, enc (f a) = enc a) (h : RE K T t ρ fr m) : RE K T t ρ fr (mapW f m) := fun Bs po φ σ H n st P p Q q => h Bs po φ σ H n st _ p Q fun a n' v H' fp pa af im f' => q (f a) n' v H' fp pa af (by rw [hf]; exact im) f'
theorem re_some {t : TE} {fr : Bool} {m : M α} (h : RE K T t ρ fr m) : RE K T t ρ fr (mapW some m) := re_as some (fun _ => rfl) h
theorem re_ofN {t : TE} {fr : Bool} {m : M Nat} (h : RE K T t ρ fr m) : RE K T t ρ fr (mapW (fun n : Nat => (n : Int)) m) := re_as (fun n : Nat => (n : Int)) (fun _ => rfl) h
/-- a number that is not below nought -/
theorem re_toN {t : TE} {fr : Bool} {m : M Int} (h : RE K T t ρ fr m) : RE K T t ρ fr (bindW m fun z => reqW (0 ≤ z) (retW z.toNat)) := fun Bs po φ σ H n st P p Q q => h Bs po φ σ H n st _ p Q fun a n' v H' fp pa af im f' =>
  q a.toNat n' v H' fp pa.2 af (by show Im K H' v (.int ((a.toNat : Nat) : Int)) fp; rw [Int.toNat_of_nonneg pa.1]; exact im) f'
/-- of what may be None, where it isn't -/
theorem re_get {t : TE} {fr : Bool} {m : M (Option α)} (h : RE K T t ρ fr m) : RE K T t ρ fr (fun n P => m n fun o n' => ∃ a, o = some a ∧ P a n') := fun Bs po φ σ H n st P p Q q => h Bs po φ σ H n st _ p Q fun o n' v H' fp pa af im f' => by
  obtain ⟨a, rfl, pa⟩ := pa
  exact q a n' v H' fp pa af im f'
/-! ### two parts and what is made of them -/
def OpW (K : PySem.W.Frag) {α β γ : Type} [Enc α] [Enc β] [Enc γ] (r : R2) (f : α → β → M γ) : Prop := ∀ (a : α) (b : β) (H : Hp) (v w : V) (fp fq : List Addr), Im K H v (enc a) fp → Im K H w (enc b) fq → ∀ n (P : γ → Nat → Prop), f a b n P →
  ∀ Q : VK, (∀ (c : γ) (H' : Hp) (v' : V) (fr : List Addr), P c n → Same H H' → Im K H' v' (enc c) fr → (fr.Nodup ∧ ∀ x ∈ fr, H x = none) → Q v' H') → r v w H Q
theorem fp_new {H : Hp} {po : Option Addr} {fp : List Addr} {T : List (Addr × Str)} {Bs : Addr → HO → Prop} {φ : Nat → List Addr} {σ : L2.St} {n : Nat} (st : ST K T Bs po ρ φ σ H n) (h : fp.Nodup ∧ ∀ x ∈ fp, H x = none) : Fp H po true fp :=
  ⟨fun b hb => st.fresh_pot fun o e => (by rw [h.2 b hb] at e; cases e), fun _ => ⟨h.1, fun b hb o e => (by rw [h.2 b hb] at e; cases e)⟩⟩
theorem re_op {ta tb : TE} {ma : M α} {mb : M β} {f : α → β → M γ} {r : R2} {f1 f2 : Bool} (hr : OpW K r f) (ha : RE K T ta ρ f1 ma) (hb : RE K T tb ρ f2 mb) : RE K T (tOp r ta tb) ρ true (b2W ma mb f) := fun Bs po φ σ H n st P p Q q =>
  ha Bs po φ σ H n st _ p _ fun a n1 v H1 fp pa a1 i1 g1 => hb Bs po φ σ H1 n1 (st.af a1) _ pa _ fun b n2 w H2 fq pb a2 i2 g2 =>
    hr a b H2 v w fp fq (i1.af g1.1 a2.fr) i2 n2 _ pb Q fun c H3 v' fr pc s3 i3 g3 => by
      have a12 := a1.trans a2
      exact q c n2 v' H3 fr pc (a12.trans (Af.same s3)) i3 (Fp.back a12.fr (fp_new (st.af a12) g3))
theorem opw_pure {α β γ : Type} [Enc α] [Enc β] [Enc γ] {r : R2} {f : α → β → M γ} (g : ∀ (a : α) (b : β) (H : Hp) (v w : V) (fp fq : List Addr), Im K H v (enc a) fp → Im K H w (enc b) fq → ∀ n (P : γ → Nat → Prop), f a b n P → ∃ c v', P c n ∧ Im K H v' (enc c) [] ∧ ∀ Q : VK, Q v' H → r v w H Q) : OpW K r f :=
  fun a b H v w fp fq i1 i2 n P p Q q => by
    obtain ⟨c, v', h1, h2, h3⟩ := g a b H v w fp fq i1 i2 n P p
    exact h3 Q (q c H v' [] h1 (Same.refl H) h2 ⟨List.nodup_nil, fun x h => absurd h List.not_mem_nil⟩)
/-! numbers from nought on -/
def rNN (g : Nat → Nat → Nat) (C : Nat → Nat → Prop) : R2 := fun x y H Q => ∃ n m : Nat, x = .int (n : Int) ∧ y = .int (m : Int) ∧ C n m ∧ Q (.int ((g n m : Nat) : Int)) H
theorem opw_n {r : R2} {g : Nat → Nat → Nat} {C : Nat → Nat → Prop} (h : ∀ (a b : Nat) H Q, C a b → Q (.int ((g a b : Nat) : Int)) H → r (.int (a : Int)) (.int (b : Int)) H Q) : OpW K r (fun a b : Nat => reqW (C a b) (retW (g a b))) :=
  opw_pure fun a b H v w fp fq i1 i2 n P p => by
    cases i1
    cases i2
    exact ⟨g a b, _, p.2, .int _, fun Q q => h a b H Q p.1 q⟩
theorem opw_n0 {r : R2} {g : Nat → Nat → Nat} (h : ∀ (a b : Nat) H Q, Q (.int ((g a b : Nat) : Int)) H → r (.int (a : Int)) (.int (b : Int)) H Q) : OpW K r (fun a b : Nat => retW (g a b)) :=
  opw_pure fun a b H v w fp fq i1 i2 n P p => by
    cases i1
    cases i2
    exact ⟨g a b, _, p, .int _, fun Q q => h a b H Q q⟩
theorem opw_z {r : R2} {g : Int → Int → Int} {C : Int → Int → Prop} (h : ∀ (a b : Int) H Q, C a b → Q (.int (g a b)) H → r (.int a) (.int b) H Q) : OpW K r (fun a b : Int => reqW (C a b) (retW (g a b))) :=
  opw_pure fun a b H v w fp fq i1 i2 n P p => by
    cases i1
    cases i2
    exact ⟨g a b, _, p.2, .int _, fun Q q => h a b H Q p.1 q⟩
theorem opw_z0 {r : R2} {g : Int → Int → Int} (h : ∀ (a b : Int) H Q, Q (.int (g a b)) H → r (.int a) (.int b) H Q) : OpW K r (fun a b : Int => retW (g a b)) :=
  opw_pure fun a b H v w fp fq i1 i2 n P p => by
    cases i1
    cases i2
    exact ⟨g a b, _, p, .int _, fun Q q => h a b H Q q⟩
theorem opw_zb {r : R2} {g : Int → Int → Bool} (h : ∀ (a b : Int) H Q, Q (.bl (g a b)) H → r (.int a) (.int b) H Q) : OpW K r (fun a b : Int => retW (g a b)) :=
  opw_pure fun a b H v w fp fq i1 i2 n P p => by
    cases i1
    cases i2
    exact ⟨g a b, _, p, .bl _, fun Q q => h a b H Q q⟩
theorem opw_nb {r : R2} {g : Nat → Nat → Bool} (h : ∀ (a b : Nat) H Q, Q (.bl (g a b)) H → r (.int (a : Int)) (.int (b : Int)) H Q) : OpW K r (fun a b : Nat => retW (g a b)) :=
  opw_pure fun a b H v w fp fq i1 i2 n P p => by
    cases i1
    cases i2
    exact ⟨g a b, _, p, .bl _, fun Q q => h a b H Q q⟩
theorem ow_addN : OpW K (fun x y H Q => ∃ n m : Nat, x = .int (n : Int) ∧ y = .int (m : Int) ∧ Q (.int ((n + m : Nat) : Int)) H) (fun a b : Nat => retW (a + b)) := opw_n0 fun a b H Q q => ⟨a, b, rfl, rfl, q⟩
theorem ow_subN : OpW K (fun x y H Q => ∃ n m : Nat, x = .int (n : Int) ∧ y = .int (m : Int) ∧ m ≤ n ∧ Q (.int ((n - m : Nat) : Int)) H) (fun a b : Nat => reqW (b ≤ a) (retW (a - b))) := opw_n fun a b H Q c q => ⟨a, b, rfl, rfl, c, q⟩
theorem ow_mulN : OpW K (fun x y H Q => ∃ n m : Nat, x = .int (n : Int) ∧ y = .int (m : Int) ∧ n < 2 ^ 63 ∧ Q (.int ((n * m : Nat) : Int)) H) (fun a b : Nat => reqW (a < 2 ^ 63) (retW (a * b))) := opw_n (C := fun a _ => a < 2 ^ 63) fun a b H Q c q => ⟨a, b, rfl, rfl, c, q⟩
theorem ow_modN : OpW K (fun x y H Q => ∃ n m : Nat, x = .int (n : Int) ∧ y = .int (m : Int) ∧ 0 < m ∧ Q (.int ((n % m : Nat) : Int)) H) (fun a b : Nat => reqW (0 < b) (retW (a % b))) := opw_n (C := fun _ b => 0 < b) fun a b H Q c q => ⟨a, b, rfl, rfl, c, q⟩
theorem ow_divN : OpW K (fun x y H Q => ∃ n m : Nat, x = .int (n : Int) ∧ y = .int (m : Int) ∧ 0 < m ∧ m < 1073741824 ∧ Q (.int ((n / m : Nat) : Int)) H) (fun a b : Nat => reqW (0 < b ∧ b < 1073741824) (retW (a / b))) := opw_n (C := fun _ b => 0 < b ∧ b < 1073741824) fun a b H Q c q => ⟨a, b, rfl, rfl, c.1, c.2, q⟩
theorem ow_xorN : OpW K (fun x y H Q => ∃ n m : Nat, x = .int (n : Int) ∧ y = .int (m : Int) ∧ Q (.int ((n ^^^ m : Nat) : Int)) H) (fun a b : Nat => retW (a ^^^ b)) := opw_n0 fun a b H Q q => ⟨a, b, rfl, rfl, q⟩
theorem ow_orN : OpW K (fun x y H Q => ∃ n m : Nat, x = .int (n : Int) ∧ y = .int (m : Int) ∧ Q (.int ((n ||| m : Nat) : Int)) H) (fun a b : Nat => retW (a ||| b)) := opw_n0 fun a b H Q q => ⟨a, b, rfl, rfl, q⟩
theorem ow_shrN : OpW K (fun x y H Q => ∃ n m : Nat, x = .int (n : Int) ∧ y = .int (m : Int) ∧ Q (.int ((n / 2 ^ m : Nat) : Int)) H) (fun a b : Nat => retW (a / 2 ^ b)) := opw_n0 fun a b H Q q => ⟨a, b, rfl, rfl, q⟩
theorem ow_bit : OpW K (fun x y H Q => ∃ k : Nat, x = .int 1 ∧ y = .int (k : Int) ∧ k ≤ 134217727 ∧ Q (.int ((2 ^ k : Nat) : Int)) H) (fun a b : Nat => reqW (a = 1 ∧ b ≤ 134217727) (retW (2 ^ b))) :=
  opw_n (C := fun a b => a = 1 ∧ b ≤ 134217727) fun a b H Q c q => ⟨b, by rw [c.1]; rfl, rfl, c.2, q⟩
theorem ow_add : OpW K (rI0 fun i j => .int (i + j)) (fun a b : Int => retW (a + b)) := opw_z0 fun a b H Q q => ⟨a, b, rfl, rfl, q⟩
theorem ow_sub : OpW K (rI0 fun i j => .int (i - j)) (fun a b : Int => retW (a - b)) := opw_z0 fun a b H Q q => ⟨a, b, rfl, rfl, q⟩
theorem ow_mul : OpW K (rI CMul fun i j => .int (i * j)) (fun a b : Int => reqW (CMul a b) (retW (a * b))) := opw_z fun a b H Q c q => ⟨a, b, rfl, rfl, c, q⟩
theorem ow_mod : OpW K (rI (fun _ j => 0 < j) fun i j => .int (i % j)) (fun a b : Int => reqW (0 < b) (retW (a % b))) := opw_z (C := fun _ b => 0 < b) fun a b H Q c q => ⟨a, b, rfl, rfl, c, q⟩
theorem ow_fdiv : OpW K (rI CDiv fun i j => .int (i / j)) (fun a b : Int => reqW (CDiv a b) (retW (a / b))) := opw_z fun a b H Q c q => ⟨a, b, rfl, rfl, c, q⟩
/-- numbers compared -/
theorem ow_cmpN {g : Int → Int → Bool} {p : Nat → Nat → Bool} (hp : ∀ a b : Nat, g (a : Int) (b : Int) = p a b) : OpW K (rI0 fun i j => .bl (g i j)) (fun a b : Nat => retW (p a b)) := opw_nb fun a b H Q q => ⟨a, b, rfl, rfl, by show Q (.bl (g (a : Int) (b : Int))) H; rw [hp]; exact q⟩
theorem ow_ltN : OpW K (rI0 fun i j => .bl (decide (i < j))) (fun a b : Nat => retW (decide (a < b))) := ow_cmpN fun a b => by simp
theorem ow_leN : OpW K (rI0 fun i j => .bl (decide (i ≤ j))) (fun a b : Nat => retW (decide (a ≤ b))) := ow_cmpN fun a b => by simp
theorem ow_gtN : OpW K (rI0 fun i j => .bl (decide (j < i))) (fun a b : Nat => retW (decide (b < a))) := ow_cmpN fun a b => by simp
theorem ow_geN : OpW K (rI0 fun i j => .bl (decide (j ≤ i))) (fun a b : Nat => retW (decide (b ≤ a))) := ow_cmpN fun a b => by simp
theorem ow_lt : OpW K (rI0 fun i j => .bl (decide (i < j))) (fun a b : Int => retW (decide (a < b))) := opw_zb fun a b H Q q => ⟨a, b, rfl, rfl, q⟩
theorem ow_le : OpW K (rI0 fun i j => .bl (decide (i ≤ j))) (fun a b : Int => retW (decide (a ≤ b))) := opw_zb fun a b H Q q => ⟨a, b, rfl, rfl, q⟩
theorem ow_gt : OpW K (rI0 fun i j => .bl (decide (j < i))) (fun a b : Int => retW (decide (b < a))) := opw_zb fun a b H Q q => ⟨a, b, rfl, rfl, q⟩
theorem ow_ge : OpW K (rI0 fun i j => .bl (decide (j ≤ i))) (fun a b : Int => retW (decide (b ≤ a))) := opw_zb fun a b H Q q => ⟨a, b, rfl, rfl, q⟩
theorem ow_eqN : OpW K rEq (fun a b : Nat => retW (decide (a = b))) := opw_nb fun a b H Q q => ⟨rfl, by
  have e : decide (V.int (a : Int) = V.int (b : Int)) = decide (a = b) := by simp; omega
  rw [e]; exact q⟩
theorem ow_neN : OpW K rNe (fun a b : Nat => retW (!decide (a = b))) := opw_nb fun a b H Q q => ⟨rfl, by
  have e : decide (V.int (a : Int) = V.int (b : Int)) = decide (a = b) := by simp; omega
  rw [e]; exact q⟩
theorem ow_eq : OpW K rEq (fun a b : Int => retW (decide (a = b))) := opw_zb fun a b H Q q => ⟨rfl, by
  have e : decide (V.int a = V.int b) = decide (a = b) := by simp
  rw [e]; exact q⟩
theorem ow_ne : OpW K rNe (fun a b : Int => retW (!decide (a = b))) := opw_zb fun a b H Q q => ⟨rfl, by
  have e : decide (V.int a = V.int b) = decide (a = b) := by simp
  rw [e]; exact q⟩
theorem ow_eqB : OpW K rEq (fun a b : Bool => retW (decide (a = b))) := opw_pure fun a b H v w fp fq i1 i2 n P p => by
  cases i1
  cases i2
  exact ⟨_, _, p, .bl _, fun Q q => ⟨rfl, by
    have e : decide (V.bl a = V.bl b) = decide (a = b) := by simp
    rw [e]; exact q⟩⟩
theorem ow_neB : OpW K rNe (fun a b : Bool => retW (!decide (a = b))) := opw_pure fun a b H v w fp fq i1 i2 n P p => by
  cases i1
  cases i2
  exact ⟨_, _, p, .bl _, fun Q q => ⟨rfl, by
    have e : decide (V.bl a = V.bl b) = decide (a = b) := by simp
    rw [e]; exact q⟩⟩
theorem ow_eqS : OpW K rEq (fun a b : Str => retW (decide (a = b))) := opw_pure fun a b H v w fp fq i1 i2 n P p => by
  cases i1
  cases i2
  exact ⟨_, _, p, .bl _, fun Q q => ⟨rfl, by
    have e : decide (V.str a = V.str b) = decide (a = b) := by simp
    rw [e]; exact q⟩⟩
theorem ow_neS : OpW K rNe (fun a b : Str => retW (!decide (a = b))) := opw_pure fun a b H v w fp fq i1 i2 n P p => by
  cases i1
  cases i2
  exact ⟨_, _, p, .bl _, fun Q q => ⟨rfl, by
    have e : decide (V.str a = V.str b) = decide (a = b) := by simp
    rw [e]; exact q⟩⟩
/-- any data compared -/
def shapeOk (d : PyData) : Prop := SeqAt.shaped d = true ∧ d.hasDict = false
theorem ow_eqD : OpW K (rEqD K) (fun (a : α) (b : β) => reqW (shapeOk (enc a) ∧ shapeOk (enc b)) (retW (PyData.eqv (enc a) (enc b)))) := opw_pure fun a b H v w fp fq i1 i2 n P p =>
  ⟨_, _, p.2, .bl _, fun Q q => ⟨_, _, i1.dpD _ _ _ p.1.1.2, i2.dpD _ _ _ p.1.2.2, p.1.1.1, p.1.2.1, q⟩⟩
theorem ow_neD : OpW K (rNeD K) (fun (a : α) (b : β) => reqW (shapeOk (enc a) ∧ shapeOk (enc b)) (retW (!PyData.eqv (enc a) (enc b)))) := opw_pure fun a b H v w fp fq i1 i2 n P p =>
  ⟨_, _, p.2, .bl _, fun Q q => ⟨_, _, i1.dpD _ _ _ p.1.1.2, i2.dpD _ _ _ p.1.2.2, p.1.1.1, p.1.2.1, q⟩⟩
/-! ### tuples and lists by place -/
theorem im_tup {H : Hp} {v : V} {xs : List α} {fp : List Addr} (h : Im K H v (enc xs) fp) : ∃ a vs, v = .ref a ∧ TupR H a vs ∧ ImA K H vs (xs.map enc) fp := by
  cases h with
  | tup e a => exact ⟨_, _, rfl, e, a⟩
theorem im_lst {H : Hp} {v : V} {xs : Lst α} {fp : List Addr} (h : Im K H v (enc xs) fp) : ∃ a vs fq, v = .ref a ∧ H a = some (.lst vs) ∧ ImA K H vs (xs.l.map enc) fq ∧ fp = a :: fq := by
  cases h with
  | lst e a q => exact ⟨_, _, _, rfl, e, a, q⟩
theorem ima_at {H : Hp} {vs : List V} {xs : List α} {fp : List Addr} {i : Int} {a : α} [Pu α] (h : ImA K H vs (xs.map enc) fp) (e : atI xs i = some a) : ∃ v, atI vs i = some v ∧ Im K H v (enc a) [] := by
  unfold atI at e ⊢
  rw [h.len, List.length_map]
  cases hx : ixN xs.length i with
  | none => rw [hx] at e; cases e
  | some j =>
    rw [hx] at e
    have e : xs[j]? = some a := e
    obtain ⟨v, fq, h1, h2, h3⟩ := h.get (i := j) (d := enc a) (by rw [List.getElem?_map, e]; rfl)
    have := Pu.pu h2
    subst this
    exact ⟨v, h1, h2⟩
theorem ow_ixT [Pu α] : OpW K (rIxT K) (fun (xs : List α) (i : Int) n P => ∃ a, atI xs i = some a ∧ P a n) := opw_pure fun xs i H v w fp fq i1 i2 n P p => by
  obtain ⟨a, ea, pa⟩ := p
  obtain ⟨t, vs, rfl, hT, hA⟩ := im_tup i1
  cases i2
  obtain ⟨u, h1, h2⟩ := ima_at hA ea
  exact ⟨a, u, pa, h2, fun Q q => ⟨t, vs, i, u, rfl, rfl, hT.q, h1, q⟩⟩
theorem ow_ixL [Pu α] : OpW K (rIxL K) (fun (xs : Lst α) (i : Int) n P => ∃ a, atI xs.l i = some a ∧ P a n) := opw_pure fun xs i H v w fp fq i1 i2 n P p => by
  obtain ⟨a, ea, pa⟩ := p
  obtain ⟨t, vs, fq', rfl, hT, hA, _⟩ := im_lst i1
  cases i2
  obtain ⟨u, h1, h2⟩ := ima_at hA ea
  exact ⟨a, u, pa, h2, fun Q q => ⟨t, vs, i, u, rfl, rfl, .inl (.inl hT), h1, q⟩⟩
theorem atN {xs : List α} {i : Nat} : atI xs (i : Int) = xs[i]? := by
  cases h : xs[i]? with
  | none =>
    have h1 := List.getElem?_eq_none_iff.mp h
    unfold atI ixN
    rw [if_pos (by omega), if_neg (by omega)]
    rfl
  | some a => exact atI_nat h
theorem ow_ixTN [Pu α] : OpW K (rIxT K) (fun (xs : List α) (i : Nat) n P => ∃ a, xs[i]? = some a ∧ P a n) := fun xs i H v w fp fq i1 i2 n P p => ow_ixT xs (i : Int) H v w fp fq i1 i2 n P (by obtain ⟨a, h1, h2⟩ := p; exact ⟨a, by rw [atN]; exact h1, h2⟩)
theorem ow_ixLN [Pu α] : OpW K (rIxL K) (fun (xs : Lst α) (i : Nat) n P => ∃ a, xs.l[i]? = some a ∧ P a n) := fun xs i H v w fp fq i1 i2 n P p => ow_ixL xs (i : Int) H v w fp fq i1 i2 n P (by obtain ⟨a, h1, h2⟩ := p; exact ⟨a, by rw [atN]; exact h1, h2⟩)
/-! pairs, threes by written places -/
theorem ow_fst [Pu α] [Pu β] : OpW K (rIxT K) (fun (x : α × β) (i : Nat) => reqW (i = 0) (retW x.1)) := opw_pure fun x i H v w fp fq i1 i2 n P p => by
  obtain ⟨rfl, pa⟩ := p
  cases i2
  cases i1 with
  | tup e b =>
    obtain ⟨v1, v2, f1, f2, rfl, h1, h2, _⟩ := ima2 b
    have := Pu.pu h1; subst this
    exact ⟨x.1, v1, pa, h1, fun Q q => ⟨_, _, _, _, rfl, rfl, e.q, rfl, q⟩⟩
theorem ow_snd [Pu α] [Pu β] : OpW K (rIxT K) (fun (x : α × β) (i : Nat) => reqW (i = 1) (retW x.2)) := opw_pure fun x i H v w fp fq i1 i2 n P p => by
  obtain ⟨rfl, pa⟩ := p
  cases i2
  cases i1 with
  | tup e b =>
    obtain ⟨v1, v2, f1, f2, rfl, h1, h2, _⟩ := ima2 b
    have := Pu.pu h2; subst this
    exact ⟨x.2, v2, pa, h2, fun Q q => ⟨_, _, _, _, rfl, rfl, e.q, rfl, q⟩⟩
/-! tuples joined -/
theorem ow_cat [Pu α] : OpW K (rCatA K) (fun (xs ys : List α) => reqW (xs.length + ys.length ≤ sizeLine) (retW (xs ++ ys))) := fun xs ys H v w fp fq i1 i2 n P p Q q => by
  have e1 := Pu.pu i1
  have e2 := Pu.pu i2
  subst e1 e2
  obtain ⟨a, vs, rfl, hT, hA⟩ := im_tup i1
  obtain ⟨b, ws, rfl, hT2, hA2⟩ := im_tup i2
  have hl1 := hA.len
  have hl2 := hA2.len
  rw [List.length_map] at hl1 hl2
  have hc : ImA K H (vs ++ ws) ((xs ++ ys).map enc) [] := by rw [List.map_append]; exact hA.app hA2
  refine ⟨a, b, vs, ws, rfl, rfl, hT.q, hT2.q, by rw [hl1, hl2]; exact p.1, fun e => ?_, fun e1 e => ?_, fun _ _ t nt => ?_⟩
  · subst e
    exact q _ H _ [] p.2 (Same.refl H) (.tup hT2 (by rw [List.nil_append] at hc; exact hc)) ⟨List.nodup_nil, fun x h => absurd h List.not_mem_nil⟩
  · subst e
    exact q _ H _ [] p.2 (Same.refl H) (.tup hT (by rw [List.append_nil] at hc; exact hc)) ⟨List.nodup_nil, fun x h => absurd h List.not_mem_nil⟩
  · have s := same_new (Same.refl H) nt (o := .tup (vs ++ ws))
    exact q _ _ _ [] p.2 s (.tup upd_same (hc.same s)) ⟨List.nodup_nil, fun x h => absurd h List.not_mem_nil⟩
theorem rep_zerosR {l : Addr} {k : Int} {H : Hp} {Q : VK} (hT : TupR H l [V.int 0]) (h1 : -1000 ≤ k) (h2 : k ≤ 1000) (h : ∀ q H', Same H H' → TupR H' q (nv (List.replicate k.toNat 0)) → Q (.ref q) H') : rRepI K (.ref l) (.int k) H Q := by
  refine ⟨l, k, [V.int 0], rfl, rfl, hT.q, by simp, h1, h2, by simp, fun e => ?_, fun _ p np => ?_⟩
  · subst e
    exact h l H (Same.refl H) hT
  · refine h p _ (same_new (Same.refl H) np) ?_
    unfold TupR
    rw [upd_same, rep_zero]
theorem ow_repZ : OpW K (rRepI K) (fun (xs : List Nat) (k : Int) => reqW (xs = [0] ∧ -1000 ≤ k ∧ k ≤ 1000) (retW (List.replicate k.toNat 0))) := fun xs k H v w fp fq i1 i2 n P p Q q => by
  obtain ⟨⟨rfl, k1, k2⟩, pa⟩ := p
  obtain ⟨a, vs, rfl, hT, hA⟩ := im_tup i1
  cases i2
  obtain ⟨u, rfl, hu⟩ := ima1 hA
  cases hu
  refine rep_zerosR hT k1 k2 fun t H' s hT' => q _ H' _ [] pa s (.tup hT' ?_) ⟨List.nodup_nil, fun x h => absurd h List.not_mem_nil⟩
  generalize k.toNat = m
  have : ∀ m : Nat, ImA K H' (nv (List.replicate m 0)) ((List.replicate m (0 : Nat)).map enc) [] := fun m => by
    induction m with
    | zero => exact .nil
    | succ m ih => rw [List.replicate_succ]; exact .cons (.int _) ih rfl
  exact this m
/-! lists joined -/
theorem nodup_app {xs ys : List Addr} (h1 : xs.Nodup) (h2 : ys.Nodup) (h : ∀ x ∈ xs, x ∉ ys) : (xs ++ ys).Nodup := List.nodup_append.mpr ⟨h1, h2, fun x hx y hy e => h x hx (by rw [e]; exact hy)⟩
theorem ow_catL [Pu α] : OpW K rCat (fun (xs ys : Lst α) => reqW (xs.l.length + ys.l.length ≤ sizeLine) (retW (⟨xs.l ++ ys.l⟩ : Lst α))) := fun xs ys H v w fp fq i1 i2 n P p Q q => by
  obtain ⟨a, vs, f1, rfl, hT, hA, _⟩ := im_lst i1
  obtain ⟨b, ws, f2, rfl, hT2, hA2, _⟩ := im_lst i2
  have e1 := ima_pu hA
  have e2 := ima_pu hA2
  subst e1 e2
  have hl1 := hA.len
  have hl2 := hA2.len
  rw [List.length_map] at hl1 hl2
  refine ⟨a, b, vs, ws, rfl, rfl, hT, hT2, by rw [hl1, hl2]; exact p.1, fun t nt => ?_⟩
  have s := same_new (Same.refl H) nt (o := .lst (vs ++ ws))
  refine q _ _ _ [t] p.2 s (.lst upd_same ?_ rfl) ⟨List.nodup_cons.mpr ⟨List.not_mem_nil, List.nodup_nil⟩, fun x hx => by rw [List.mem_singleton.mp hx]; exact nt⟩
  show ImA K _ _ ((xs.l ++ ys.l).map enc) []
  rw [List.map_append]
  exact (hA.app hA2).same s
theorem ow_repL [Pu α] : OpW K rRep (fun (xs : Lst α) (k : Int) => reqW (-(2 ^ 63) ≤ k ∧ k < 2 ^ 63 ∧ xs.l.length * k.toNat ≤ sizeLine) (retW (⟨(List.replicate k.toNat xs.l).flatten⟩ : Lst α))) := fun xs k H v w fp fq i1 i2 n P p Q q => by
  obtain ⟨a, vs, f1, rfl, hT, hA, _⟩ := im_lst i1
  have e1 := ima_pu hA
  subst e1
  cases i2
  have hl1 := hA.len
  rw [List.length_map] at hl1
  refine ⟨a, k, vs, rfl, rfl, hT, p.1.1, p.1.2.1, by rw [hl1]; exact p.1.2.2, fun t nt => ?_⟩
  have s := same_new (Same.refl H) nt (o := .lst (List.replicate k.toNat vs).flatten)
  refine q _ _ _ [t] p.2 s (.lst upd_same ?_ rfl) ⟨List.nodup_cons.mpr ⟨List.not_mem_nil, List.nodup_nil⟩, fun x hx => by rw [List.mem_singleton.mp hx]; exact nt⟩
  refine ImA.same ?_ s
  generalize k.toNat = m
  show ImA K H _ ((List.replicate m xs.l).flatten.map enc) []
  induction m with
  | zero => exact .nil
  | succ m ih =>
    rw [List.replicate_succ, List.replicate_succ, List.flatten_cons, List.flatten_cons, List.map_append]
    exact hA.app ih
/-! x in a tuple, a list of numbers -/
theorem ima_nums {H : Hp} : ∀ {xs : List Nat} {vs : List V} {fp : List Addr}, ImA K H vs (xs.map enc) fp → vs = nv xs
  | [], _, _, h => by cases h; rfl
  | x :: xs, _, _, h => by
    cases h with
    | cons a b q =>
      cases a
      rw [ima_nums b]
      rfl
theorem nums_ima {H : Hp} : ∀ xs : List Nat, ImA K H (nv xs) (xs.map enc) []
  | [] => .nil
  | x :: xs => .cons (.int _) (nums_ima xs) rfl
theorem im_nv {H : Hp} {v : V} {xs : List Nat} {fp : List Addr} (h : Im K H v (enc xs) fp) : ∃ a, v = .ref a ∧ TupR H a (nv xs) := by
  obtain ⟨a, vs, rfl, hT, hA⟩ := im_tup h
  rw [ima_nums hA] at hT
  exact ⟨a, rfl, hT⟩
theorem nv_im {H : Hp} {a : Addr} {xs : List Nat} (h : TupR H a (nv xs)) : Im K H (.ref a) (enc xs) [] := .tup h (nums_ima xs)
theorem im_nvL {H : Hp} {v : V} {xs : Lst Nat} {fp : List Addr} (h : Im K H v (enc xs) fp) : ∃ a, v = .ref a ∧ H a = some (.lst (nv xs.l)) := by
  obtain ⟨a, vs, _, rfl, hT, hA, _⟩ := im_lst h
  rw [ima_nums hA] at hT
  exact ⟨a, rfl, hT⟩
theorem nv_imL {H : Hp} {a : Addr} {xs : List Nat} (h : H a = some (.lst (nv xs))) : Im K H (.ref a) (enc (⟨xs⟩ : Lst Nat)) [a] := .lst h (nums_ima xs) rfl
theorem in_nums {c : Nat} {ns : List Nat} : inV (.int (c : Int)) (nv ns) = decide (c ∈ ns) := by
  unfold inV nv
  rw [List.any_map]
  induction ns with
  | nil => rfl
  | cons n ns ih =>
    rw [List.any_cons, ih]
    have : ((fun y => eqV y (V.int (c : Int))) ∘ fun (n : Nat) => V.int (n : Int)) n = decide (c = n) := by
      show eqV (.int (n : Int)) (.int (c : Int)) = decide (c = n)
      simp only [eqV]
      by_cases e : c = n
      · subst e; simp
      · simp [e]; omega
    rw [this]
    simp
theorem ow_inT : OpW K (rIn K false) (fun (x : Nat) (xs : List Nat) => retW (decide (x ∈ xs))) := opw_pure fun x xs H v w fp fq i1 i2 n P p => by
  cases i1
  obtain ⟨a, rfl, hT⟩ := im_nv i2
  exact ⟨_, _, p, .bl _, fun Q q => ⟨a, nv xs, rfl, .inr hT.q, rfl, flat_nv xs, by rw [in_nums]; exact q⟩⟩
theorem ow_inL : OpW K (rIn K false) (fun (x : Nat) (xs : Lst Nat) => retW (decide (x ∈ xs.l))) := opw_pure fun x xs H v w fp fq i1 i2 n P p => by
  cases i1
  obtain ⟨a, rfl, hT⟩ := im_nvL i2
  exact ⟨_, _, p, .bl _, fun Q q => ⟨a, nv xs.l, rfl, .inl (.inl (.inl hT)), rfl, flat_nv xs.l, by rw [in_nums]; exact q⟩⟩
theorem ow_ninT : OpW K (rIn K true) (fun (x : Nat) (xs : List Nat) => retW (!decide (x ∈ xs))) := opw_pure fun x xs H v w fp fq i1 i2 n P p => by
  cases i1
  obtain ⟨a, rfl, hT⟩ := im_nv i2
  exact ⟨_, _, p, .bl _, fun Q q => ⟨a, nv xs, rfl, .inr hT.q, rfl, flat_nv xs, by show Q (.bl (!inV _ _)) H; rw [in_nums]; exact q⟩⟩
theorem ow_ninL : OpW K (rIn K true) (fun (x : Nat) (xs : Lst Nat) => retW (!decide (x ∈ xs.l))) := opw_pure fun x xs H v w fp fq i1 i2 n P p => by
  cases i1
  obtain ⟨a, rfl, hT⟩ := im_nvL i2
  exact ⟨_, _, p, .bl _, fun Q q => ⟨a, nv xs.l, rfl, .inl (.inl (.inl hT)), rfl, flat_nv xs.l, by show Q (.bl (!inV _ _)) H; rw [in_nums]; exact q⟩⟩
end
end Bf
namespace Bf
open PySem PySem.Spec PyProof.Rows L2 LamX NdefX
section
variable {K : PySem.W.Frag} {T : List (Addr × Str)} {ρ : List Sl}
variable {α β γ δ : Type} [Enc α] [Enc β] [Enc γ] [Enc δ]
/-! ### one part and what is made of it -/
def UnW (K : PySem.W.Frag) {α γ : Type} [Enc α] [Enc γ] (r : V → Hp → VK → Prop) (f : α → M γ) : Prop := ∀ (a : α) (H : Hp) (v : V) (fp : List Addr), Im K H v (enc a) fp → ∀ n (P : γ → Nat → Prop), f a n P →
  ∀ Q : VK, (∀ (c : γ) (H' : Hp) (v' : V) (fr : List Addr), P c n → Same H H' → Im K H' v' (enc c) fr → (fr.Nodup ∧ ∀ x ∈ fr, H x = none) → Q v' H') → r v H Q
theorem re_un {ta : TE} {t : TE} {ma : M α} {f : α → M γ} {r : V → Hp → VK → Prop} {f1 : Bool} (ht : ∀ σ H Q, (ta σ H fun x H1 => r x H1 Q) → t σ H Q) (hr : UnW K r f) (ha : RE K T ta ρ f1 ma) : RE K T t ρ true (bindW ma f) := fun Bs po φ σ H n st P p Q q =>
  ht σ H Q (ha Bs po φ σ H n st _ p _ fun a n1 v H1 fp pa a1 i1 g1 =>
    hr a H1 v fp i1 n1 _ pa Q fun c H3 v' fr pc s3 i3 g3 => q c n1 v' H3 fr pc (a1.trans (Af.same s3)) i3 (Fp.back a1.fr (fp_new (st.af a1) g3)))
theorem unw_pure {r : V → Hp → VK → Prop} {f : α → M γ} (g : ∀ (a : α) (H : Hp) (v : V) (fp : List Addr), Im K H v (enc a) fp → ∀ n (P : γ → Nat → Prop), f a n P → ∃ c v', P c n ∧ Im K H v' (enc c) [] ∧ ∀ Q : VK, Q v' H → r v H Q) : UnW K r f :=
  fun a H v fp i1 n P p Q q => by
    obtain ⟨c, v', h1, h2, h3⟩ := g a H v fp i1 n P p
    exact h3 Q (q c H v' [] h1 (Same.refl H) h2 ⟨List.nodup_nil, fun x h => absurd h List.not_mem_nil⟩)
/-- a built-in of one argument -/
theorem re_cb {ta : TE} {ma : M α} {f : α → M γ} {r : List V → Hp → VK → Prop} {f1 : Bool} (hr : UnW K (fun x => r [x]) f) (ha : RE K T ta ρ f1 ma) : RE K T (tCB r (tCons ta tNil)) ρ true (bindW ma f) := re_un (r := fun x => r [x]) (fun _ _ _ h => h) hr ha
/-- a built-in of two -/
theorem re_cb2 {ta tb : TE} {ma : M α} {mb : M β} {f : α → β → M γ} {r : List V → Hp → VK → Prop} {f1 f2 : Bool} (hr : OpW K (fun x y => r [x, y]) f) (ha : RE K T ta ρ f1 ma) (hb : RE K T tb ρ f2 mb) : RE K T (tCB r (tCons ta (tCons tb tNil))) ρ true (b2W ma mb f) :=
  fun Bs po φ σ H n st P p Q q => re_op (r := fun x y => r [x, y]) hr ha hb Bs po φ σ H n st P p Q q
theorem re_neg {ta : TE} {ma : M Int} {f1 : Bool} (ha : RE K T ta ρ f1 ma) : RE K T (tUn (rU fun i => .int (-i)) ta) ρ true (mapW (fun z : Int => -z) ma) := re_un (r := rU fun i => .int (-i)) (fun _ _ _ h => h)
  (unw_pure fun a H v fp i1 n P p => by cases i1; exact ⟨-a, _, p, .int _, fun Q q => ⟨a, rfl, q⟩⟩) ha
theorem uw_lenT : UnW K (fun x H Q => ∃ p ys, [x] = [.ref p] ∧ (SqL K H p ys ∨ SqT K H p ys) ∧ Q (.int ys.length) H) (fun xs : List α => retW xs.length) := unw_pure fun xs H v fp i1 n P p => by
  obtain ⟨a, vs, rfl, hT, hA⟩ := im_tup i1
  have := hA.len
  rw [List.length_map] at this
  exact ⟨_, _, p, .int _, fun Q q => ⟨a, vs, rfl, .inr hT.q, by rw [this]; exact q⟩⟩
theorem uw_lenL : UnW K (fun x H Q => ∃ p ys, [x] = [.ref p] ∧ (SqL K H p ys ∨ SqT K H p ys) ∧ Q (.int ys.length) H) (fun xs : Lst α => retW xs.l.length) := unw_pure fun xs H v fp i1 n P p => by
  obtain ⟨a, vs, _, rfl, hT, hA, _⟩ := im_lst i1
  have := hA.len
  rw [List.length_map] at this
  exact ⟨_, _, p, .int _, fun Q q => ⟨a, vs, rfl, .inl (.inl (.inl hT)), by rw [this]; exact q⟩⟩
def rTupOf (K : PySem.W.Frag) : List V → Hp → VK → Prop := fun xs H Q => ∃ p ys, xs = [.ref p] ∧ ((SqL K H p ys ∧ ∀ l, H l = none → Q (.ref l) (upd H l (.tup ys))) ∨ (SqT K H p ys ∧ Q (.ref p) H))
theorem uw_tupL [Pu α] : UnW K (fun x => rTupOf K [x]) (fun xs : Lst α => retW xs.l) := fun xs H v fp i1 n P p Q q => by
  obtain ⟨a, vs, f1, rfl, hT, hA, _⟩ := im_lst i1
  have := ima_pu hA
  subst this
  refine ⟨a, vs, rfl, .inl ⟨.inl (.inl hT), fun t nt => ?_⟩⟩
  have s := same_new (Same.refl H) nt (o := .tup vs)
  exact q _ _ _ [] p s (.tup upd_same (hA.same s)) ⟨List.nodup_nil, fun x h => absurd h List.not_mem_nil⟩
theorem uw_tupT [Pu α] : UnW K (fun x => rTupOf K [x]) (fun xs : List α => retW xs) := unw_pure fun xs H v fp i1 n P p => by
  have := Pu.pu i1
  subst this
  obtain ⟨a, vs, rfl, hT, hA⟩ := im_tup i1
  exact ⟨_, _, p, i1, fun Q q => ⟨a, vs, rfl, .inr ⟨hT.q, q⟩⟩⟩
def rLstOf (K : PySem.W.Frag) : List V → Hp → VK → Prop := fun xs H Q => ∃ p ys, xs = [.ref p] ∧ (SqL K H p ys ∨ SqT K H p ys) ∧ ∀ l, H l = none → Q (.ref l) (upd H l (.lst ys))
theorem uw_lstT [Pu α] : UnW K (fun x => rLstOf K [x]) (fun xs : List α => retW (⟨xs⟩ : Lst α)) := fun xs H v fp i1 n P p Q q => by
  have := Pu.pu i1
  subst this
  obtain ⟨a, vs, rfl, hT, hA⟩ := im_tup i1
  refine ⟨a, vs, rfl, .inr hT.q, fun t nt => ?_⟩
  have s := same_new (Same.refl H) nt (o := .lst vs)
  exact q _ _ _ [t] p s (.lst upd_same (hA.same s) rfl) ⟨List.nodup_cons.mpr ⟨List.not_mem_nil, List.nodup_nil⟩, fun x hx => by rw [List.mem_singleton.mp hx]; exact nt⟩
theorem uw_lstL [Pu α] : UnW K (fun x => rLstOf K [x]) (fun xs : Lst α => retW (⟨xs.l⟩ : Lst α)) := fun xs H v fp i1 n P p Q q => by
  obtain ⟨a, vs, f1, rfl, hT, hA, _⟩ := im_lst i1
  have := ima_pu hA
  subst this
  refine ⟨a, vs, rfl, .inl (.inl (.inl hT)), fun t nt => ?_⟩
  have s := same_new (Same.refl H) nt (o := .lst vs)
  exact q _ _ _ [t] p s (.lst upd_same (hA.same s) rfl) ⟨List.nodup_cons.mpr ⟨List.not_mem_nil, List.nodup_nil⟩, fun x hx => by rw [List.mem_singleton.mp hx]; exact nt⟩
theorem ima_bools {H : Hp} : ∀ {xs : List Bool} {vs : List V} {fp : List Addr}, ImA K H vs (xs.map enc) fp → vs = xs.map V.bl
  | [], _, _, h => by cases h; rfl
  | x :: xs, _, _, h => by
    cases h with
    | cons a b q =>
      cases a
      rw [ima_bools b]
      rfl
theorem uw_all : UnW K (fun x => rAll K [x]) (fun xs : Lst Bool => retW (xs.l.all id)) := unw_pure fun xs H v fp i1 n P p => by
  obtain ⟨a, vs, _, rfl, hT, hA, _⟩ := im_lst i1
  rw [ima_bools hA] at hT
  exact ⟨_, _, p, .bl _, fun Q q => ⟨a, xs.l, rfl, .inl (.inl hT), q⟩⟩
theorem uw_any : UnW K (fun x => rAny K [x]) (fun xs : Lst Bool => retW (xs.l.any id)) := unw_pure fun xs H v fp i1 n P p => by
  obtain ⟨a, vs, _, rfl, hT, hA, _⟩ := im_lst i1
  rw [ima_bools hA] at hT
  exact ⟨_, _, p, .bl _, fun Q q => ⟨a, xs.l, rfl, .inl (.inl hT), q⟩⟩
theorem uw_isN : UnW K (fun x H (Q : VK) => Q (.bl (decide (x = .non))) H) (fun x : Option Nat => retW x.isNone) := unw_pure fun x H v fp i1 n P p => by
  cases x with
  | none => cases i1; exact ⟨_, _, p, .bl _, fun Q q => q⟩
  | some a => cases i1; exact ⟨_, _, p, .bl _, fun Q q => q⟩
theorem uw_isNT : UnW K (fun x H (Q : VK) => Q (.bl (decide (x = .non))) H) (fun x : Option (List α) => retW x.isNone) := unw_pure fun x H v fp i1 n P p => by
  cases x with
  | none => cases i1; exact ⟨_, _, p, .bl _, fun Q q => q⟩
  | some a => cases i1; exact ⟨_, _, p, .bl _, fun Q q => q⟩
theorem uw_isNP : UnW K (fun x H (Q : VK) => Q (.bl (decide (x = .non))) H) (fun x : Option (α × β) => retW x.isNone) := unw_pure fun x H v fp i1 n P p => by
  cases x with
  | none => cases i1; exact ⟨_, _, p, .bl _, fun Q q => q⟩
  | some a => cases i1; exact ⟨_, _, p, .bl _, fun Q q => q⟩
theorem uw_notNT : UnW K (fun x H (Q : VK) => Q (.bl (!decide (x = .non))) H) (fun x : Option (List α) => retW (!x.isNone)) := unw_pure fun x H v fp i1 n P p => by
  cases x with
  | none => cases i1; exact ⟨_, _, p, .bl _, fun Q q => q⟩
  | some a => cases i1; exact ⟨_, _, p, .bl _, fun Q q => q⟩
theorem uw_notN : UnW K (fun x H (Q : VK) => Q (.bl (!decide (x = .non))) H) (fun x : Option Nat => retW (!x.isNone)) := unw_pure fun x H v fp i1 n P p => by
  cases x with
  | none => cases i1; exact ⟨_, _, p, .bl _, fun Q q => q⟩
  | some a => cases i1; exact ⟨_, _, p, .bl _, fun Q q => q⟩
theorem uw_absZ : UnW K (fun x H Q => ∃ i, [x] = [.int i] ∧ Q (.int (if i < 0 then -i else i)) H) (fun z : Int => retW (if z < 0 then -z else z)) := unw_pure fun z H v fp i1 n P p => by
  cases i1
  exact ⟨_, _, p, .int _, fun Q q => ⟨z, rfl, q⟩⟩
theorem ow_min : OpW K (fun x y H Q => ∃ i j, [x, y] = [.int i, .int j] ∧ Q (.int (if j < i then j else i)) H) (fun a b : Nat => retW (min a b)) := opw_n0 fun a b H Q q => ⟨a, b, rfl, by
  have e : (if (b : Int) < (a : Int) then (b : Int) else (a : Int)) = ((min a b : Nat) : Int) := by split <;> omega
  rw [e]; exact q⟩
theorem ow_max : OpW K (fun x y H Q => ∃ i j, [x, y] = [.int i, .int j] ∧ Q (.int (if j > i then j else i)) H) (fun a b : Nat => retW (max a b)) := opw_n0 fun a b H Q q => ⟨a, b, rfl, by
  have e : (if (b : Int) > (a : Int) then (b : Int) else (a : Int)) = ((max a b : Nat) : Int) := by split <;> omega
  rw [e]; exact q⟩
theorem ow_maxZ : OpW K (fun x y H Q => ∃ i j, [x, y] = [.int i, .int j] ∧ Q (.int (if j > i then j else i)) H) (fun a b : Int => retW (max a b)) := opw_z0 fun a b H Q q => ⟨a, b, rfl, by
  have e : (if b > a then b else a) = max a b := by split <;> omega
  rw [e]; exact q⟩
theorem ow_minZ : OpW K (fun x y H Q => ∃ i j, [x, y] = [.int i, .int j] ∧ Q (.int (if j < i then j else i)) H) (fun a b : Int => retW (min a b)) := opw_z0 fun a b H Q q => ⟨a, b, rfl, by
  have e : (if b < a then b else a) = min a b := by split <;> omega
  rw [e]; exact q⟩
/-- int of a truth -/
theorem uw_intB : UnW K (fun x H Q => (∃ i, [x] = [.int i] ∧ Q (.int i) H) ∨ ∃ k, [x] = [.bl k] ∧ Q (.int (if k then 1 else 0)) H) (fun b : Bool => retW (if b then 1 else 0 : Nat)) := unw_pure fun b H v fp i1 n P p => by
  cases i1
  refine ⟨_, .int (((if b then 1 else 0 : Nat)) : Int), p, .int _, fun Q q => .inr ⟨b, rfl, ?_⟩⟩
  cases b <;> exact q
/-! repr -/
def ReprOk (d : PyData) : Prop := d.showable = true ∧ d.hasDict = false ∧ d.depth < 60 ∧ d.shown.length ≤ sizeLine
def rReprA (K : PySem.W.Frag) : List V → Hp → VK → Prop := fun xs H Q => (xs = [.non] ∧ Q (.str "None") H) ∨ ∃ a d, xs = [.ref a] ∧ Dp K H (.ref a) d ∧ d.showable = true ∧ d.hasDict = false ∧ d.depth < 60 ∧ d.shown.length ≤ sizeLine ∧ Q (.str d.shown) H
theorem uw_reprT : UnW K (fun x => rReprA K [x]) (fun xs : List α => reqW (ReprOk (enc xs)) (retW (enc xs).shown)) := unw_pure fun xs H v fp i1 n P p => by
  obtain ⟨a, vs, rfl, hT, hA⟩ := im_tup i1
  exact ⟨_, _, p.2, .str _, fun Q q => .inr ⟨a, _, rfl, i1.dpD _ _ _ p.1.2.1, p.1.1, p.1.2.1, p.1.2.2.1, p.1.2.2.2, q⟩⟩
theorem uw_reprL : UnW K (fun x => rReprA K [x]) (fun xs : Lst α => reqW (ReprOk (enc xs)) (retW (enc xs).shown)) := unw_pure fun xs H v fp i1 n P p => by
  obtain ⟨a, vs, _, rfl, hT, hA, _⟩ := im_lst i1
  exact ⟨_, _, p.2, .str _, fun Q q => .inr ⟨a, _, rfl, i1.dpD _ _ _ p.1.2.1, p.1.1, p.1.2.1, p.1.2.2.1, p.1.2.2.2, q⟩⟩
theorem uw_reprP : UnW K (fun x => rReprA K [x]) (fun x : α × β => reqW (ReprOk (enc x)) (retW (enc x).shown)) := unw_pure fun xs H v fp i1 n P p => by
  cases i1 with
  | tup e b => exact ⟨_, _, p.2, .str _, fun Q q => .inr ⟨_, _, rfl, .tup e.q (b.dpD _ _ _ p.1.2.1), p.1.1, p.1.2.1, p.1.2.2.1, p.1.2.2.2, q⟩⟩
theorem uw_reprOT : UnW K (fun x => rReprA K [x]) (fun xs : Option (List α) => reqW (∀ l, xs = some l → ReprOk (enc l)) (retW (match xs with | none => ("None" : Str) | some l => (enc l).shown))) := unw_pure fun xs H v fp i1 n P p => by
  cases xs with
  | none => cases i1; exact ⟨_, _, p.2, .str _, fun Q q => .inl ⟨rfl, q⟩⟩
  | some l =>
    have z := p.1 l rfl
    obtain ⟨a, vs, rfl, hT, hA⟩ := im_tup (xs := l) i1
    exact ⟨_, _, p.2, .str _, fun Q q => .inr ⟨a, _, rfl, Im.dpD _ _ _ i1 z.2.1, z.1, z.2.1, z.2.2.1, z.2.2.2, q⟩⟩
/-! slices -/
def TO' := L2.St → Hp → (Option Int → Hp → Prop) → Prop
def RO (K : PySem.W.Frag) (T : List (Addr × Str)) (t : TO') (ρ : List Sl) (m : M (Option Int)) : Prop := ∀ (Bs : Addr → HO → Prop) (po : Option Addr) (φ : Nat → List Addr) (σ : L2.St) (H : Hp) (n : Nat), ST K T Bs po ρ φ σ H n → ∀ P : Option Int → Nat → Prop, m n P →
  ∀ Q : Option Int → Hp → Prop, (∀ (a : Option Int) (n' : Nat) (H' : Hp), P a n' → Af K T po H n H' n' → Q a H') → t σ H Q
theorem ro_none : RO K T tNoPart ρ (retW none) := fun Bs po φ σ H n st P p Q q => q none n H p Af.refl
theorem ro_nat {t : TE} {m : M Nat} {f : Bool} (h : RE K T t ρ f m) : RO K T (tPart t) ρ (bindW m fun k => retW (some (k : Int))) := fun Bs po φ σ H n st P p Q q => h Bs po φ σ H n st _ p _ fun a n' v H' fp pa af im g => by
  cases im
  exact ⟨_, rfl, q _ n' H' pa af⟩
theorem ro_int {t : TE} {m : M Int} {f : Bool} (h : RE K T t ρ f m) : RO K T (tPart t) ρ (bindW m fun k => retW (some k)) := fun Bs po φ σ H n st P p Q q => h Bs po φ σ H n st _ p _ fun a n' v H' fp pa af im g => by
  cases im
  exact ⟨_, rfl, q _ n' H' pa af⟩
def cutW (xs : List α) (lo hi : Option Int) : List α := (xs.drop (HT.sIx xs.length 0 lo)).take (HT.sIx xs.length xs.length hi - HT.sIx xs.length 0 lo)
theorem ima_drop {H : Hp} [Pu α] : ∀ {xs : List α} {vs : List V} (k : Nat), ImA K H vs (xs.map enc) [] → ImA K H (vs.drop k) ((xs.drop k).map enc) []
  | [], _, k, h => by cases h; rw [List.drop_nil, List.drop_nil]; exact .nil
  | x :: xs, _, 0, h => h
  | x :: xs, _, k + 1, h => by
    cases h with
    | cons a b q =>
      have := ima_pu b
      subst this
      exact ima_drop k b
theorem ima_take {H : Hp} [Pu α] : ∀ {xs : List α} {vs : List V} (k : Nat), ImA K H vs (xs.map enc) [] → ImA K H (vs.take k) ((xs.take k).map enc) []
  | [], _, k, h => by cases h; rw [List.take_nil, List.take_nil]; exact .nil
  | x :: xs, _, 0, h => .nil
  | x :: xs, _, k + 1, h => by
    cases h with
    | cons a b q =>
      have := ima_pu b
      subst this
      have e := Pu.pu a
      subst e
      exact .cons a (ima_take k b) rfl
theorem ima_cut {H : Hp} [Pu α] {xs : List α} {vs : List V} {lo hi : Option Int} (h : ImA K H vs (xs.map enc) []) : ImA K H (cutV vs lo hi) ((cutW xs lo hi).map enc) [] := by
  unfold cutV cutW
  rw [h.len, List.length_map]
  exact ima_take _ (ima_drop _ h)
def slTW {α : Type} (m : M (List α)) (ml mh : M (Option Int)) : M (List α) := fun n P => m n fun xs n1 => ml n1 fun lo n2 => mh n2 fun hi n3 => P (cutW xs lo hi) n3
def slLW {α : Type} (m : M (Lst α)) (ml mh : M (Option Int)) : M (Lst α) := fun n P => m n fun xs n1 => ml n1 fun lo n2 => mh n2 fun hi n3 => P (⟨cutW xs.l lo hi⟩ : Lst α) n3
theorem re_slT [Pu α] {te : TE} {tl th : TO'} {m : M (List α)} {ml mh : M (Option Int)} {f : Bool} (h : RE K T te ρ f m) (hl : RO K T tl ρ ml) (hh : RO K T th ρ mh) :
    RE K T (tSl (rSlA K) te tl th) ρ true (slTW m ml mh) := fun Bs po φ σ H n st P p Q q =>
  h Bs po φ σ H n st _ p _ fun xs n1 v H1 fp pa a1 i1 g1 => hl Bs po φ σ H1 n1 (st.af a1) _ pa _ fun lo n2 H2 pb a2 => hh Bs po φ σ H2 n2 ((st.af a1).af a2) _ pb _ fun hi n3 H3 pc a3 => by
    have i3 := (i1.af g1.1 a2.fr).af g1.1 a3.fr
    have := Pu.pu i3
    subst this
    obtain ⟨a, vs, rfl, hT, hA⟩ := im_tup i3
    have hc := ima_cut (lo := lo) (hi := hi) hA
    have af := (a1.trans a2).trans a3
    refine ⟨a, vs, rfl, hT.q, fun w => ?_, fun w t nt => ?_⟩
    · refine q _ n3 _ H3 [] pc af (.tup hT ?_) Fp.nil
      have e : cutV vs lo hi = vs := by
        unfold cutV
        rw [w.1, w.2, List.drop_zero, Nat.sub_zero, List.take_length]
      rw [e] at hc
      exact hc
    · have s := same_new (Same.refl H3) nt (o := .tup (cutV vs lo hi))
      exact q _ n3 _ _ [] pc (af.trans (Af.same s)) (.tup upd_same (hc.same s)) Fp.nil
theorem re_slL [Pu α] {te : TE} {tl th : TO'} {m : M (Lst α)} {ml mh : M (Option Int)} {f : Bool} (h : RE K T te ρ f m) (hl : RO K T tl ρ ml) (hh : RO K T th ρ mh) :
    RE K T (tSl (rSlL K) te tl th) ρ true (slLW m ml mh) := fun Bs po φ σ H n st P p Q q =>
  h Bs po φ σ H n st _ p _ fun xs n1 v H1 fp pa a1 i1 g1 => hl Bs po φ σ H1 n1 (st.af a1) _ pa _ fun lo n2 H2 pb a2 => hh Bs po φ σ H2 n2 ((st.af a1).af a2) _ pb _ fun hi n3 H3 pc a3 => by
    have i3 := (i1.af g1.1 a2.fr).af g1.1 a3.fr
    obtain ⟨a, vs, f1, rfl, hT, hA, _⟩ := im_lst i3
    have := ima_pu hA
    subst this
    have hc := ima_cut (lo := lo) (hi := hi) hA
    have af := (a1.trans a2).trans a3
    refine ⟨a, vs, rfl, .inl (.inl hT), fun t nt => ?_⟩
    have s := same_new (Same.refl H3) nt (o := .lst (cutV vs lo hi))
    have st3 := ((st.af a1).af a2).af a3
    exact q _ n3 _ _ [t] pc (af.trans (Af.same s)) (.lst upd_same (hc.same s) rfl) (Fp.back af.fr (fp_new st3 ⟨List.nodup_cons.mpr ⟨List.not_mem_nil, List.nodup_nil⟩, fun x hx => by rw [List.mem_singleton.mp hx]; exact nt⟩))
theorem re_revT [Pu α] {te : TE} {m : M (List α)} {f : Bool} (h : RE K T te ρ f m) : RE K T (tRevT K te) ρ true (mapW List.reverse m) := fun Bs po φ σ H n st P p Q q =>
  h Bs po φ σ H n st _ p _ fun xs n1 v H1 fp pa a1 i1 g1 => by
    have := Pu.pu i1
    subst this
    obtain ⟨a, vs, rfl, hT, hA⟩ := im_tup i1
    refine ⟨a, vs, rfl, hT.q, fun t nt => ?_⟩
    have s := same_new (Same.refl H1) nt (o := .tup vs.reverse)
    refine q _ n1 _ _ [] pa (a1.trans (Af.same s)) (.tup upd_same ?_) Fp.nil
    refine ImA.same ?_ s
    have : ∀ {xs : List α} {vs : List V}, ImA K H1 vs (xs.map enc) [] → ImA K H1 vs.reverse (xs.reverse.map enc) [] := by
      intro xs
      induction xs with
      | nil => intro vs h; cases h; exact .nil
      | cons x xs ih =>
        intro vs h
        cases h with
        | cons a b q =>
          have e1 := ima_pu b
          have e2 := Pu.pu a
          subst e1 e2
          rw [List.reverse_cons, List.reverse_cons, List.map_append]
          exact (ih b).app (.cons a .nil rfl)
    exact this hA
/-! displays -/
def RAs (K : PySem.W.Frag) (T : List (Addr × Str)) (t : TA) (ρ : List Sl) {α : Type} [Enc α] (m : M (List α)) : Prop := ∀ (Bs : Addr → HO → Prop) (po : Option Addr) (φ : Nat → List Addr) (σ : L2.St) (H : Hp) (n : Nat), ST K T Bs po ρ φ σ H n → ∀ P : List α → Nat → Prop, m n P →
  ∀ Q : List V → Hp → Prop, (∀ (a : List α) (n' : Nat) (vs : List V) (H' : Hp), P a n' → Af K T po H n H' n' → ImA K H' vs (a.map enc) [] → Q vs H') → t σ H Q
theorem ras_nil : RAs K T tNil ρ (retW ([] : List α)) := fun Bs po φ σ H n st P p Q q => q [] n [] H p Af.refl .nil
theorem ras_cons [Pu α] {t : TE} {tr : TA} {m : M α} {ms : M (List α)} {f : Bool} (h : RE K T t ρ f m) (hs : RAs K T tr ρ ms) : RAs K T (tCons t tr) ρ (b2W m ms fun a as => retW (a :: as)) := fun Bs po φ σ H n st P p Q q =>
  h Bs po φ σ H n st _ p _ fun a n1 v H1 fp pa a1 i1 g1 => hs Bs po φ σ H1 n1 (st.af a1) _ pa _ fun as n2 vs H2 pb a2 i2 => by
    have i1' := i1.af g1.1 a2.fr
    have := Pu.pu i1'
    subst this
    exact q _ n2 _ H2 pb (a1.trans a2) (.cons i1' i2 rfl)
theorem re_lst {t : TA} {m : M (List α)} (h : RAs K T t ρ m) : RE K T (tLst t) ρ true (bindW m fun xs => reqW (xs.length ≤ sizeLine) (retW (⟨xs⟩ : Lst α))) := fun Bs po φ σ H n st P p Q q =>
  h Bs po φ σ H n st _ p _ fun a n1 vs H1 pa a1 i1 => by
    have hl := i1.len
    rw [List.length_map] at hl
    refine ⟨by rw [hl]; exact pa.1, fun t nt => ?_⟩
    have s := same_new (Same.refl H1) nt (o := .lst vs)
    exact q _ n1 _ _ [t] pa.2 (a1.trans (Af.same s)) (.lst upd_same (i1.same s) rfl) (Fp.back a1.fr (fp_new (st.af a1) ⟨List.nodup_cons.mpr ⟨List.not_mem_nil, List.nodup_nil⟩, fun x hx => by rw [List.mem_singleton.mp hx]; exact nt⟩))
theorem re_tupL {t : TA} {m : M (List α)} (h : RAs K T t ρ m) : RE K T (tTup t) ρ true (bindW m fun xs => reqW (xs.length ≤ sizeLine) (retW xs)) := fun Bs po φ σ H n st P p Q q =>
  h Bs po φ σ H n st _ p _ fun a n1 vs H1 pa a1 i1 => by
    have hl := i1.len
    rw [List.length_map] at hl
    refine ⟨by rw [hl]; exact pa.1, fun t nt => ?_⟩
    have s := same_new (Same.refl H1) nt (o := .tup vs)
    exact q _ n1 _ _ [] pa.2 (a1.trans (Af.same s)) (.tup upd_same (i1.same s)) Fp.nil
/-- two things of which each is new -/
theorem fp_two {H H1 : Hp} {po : Option Addr} {n n1 : Nat} {f1 f2 : List Addr} {v : V} {d : PyData} (a1 : Af K T po H n H1 n1) (i1 : Im K H1 v d f1) (g1 : Fp H po true f1) (g2 : Fp H1 po true f2) : Fp H po true (f1 ++ f2) := by
  have g2' := Fp.back a1.fr g2
  refine ⟨fun b hb => (List.mem_append.mp hb).elim (g1.1 b) (g2.1 b), fun _ => ⟨nodup_app (g1.2 rfl).1 (g2.2 rfl).1 fun x hx hy => ?_, fun b hb => (List.mem_append.mp hb).elim ((g1.2 rfl).2 b) ((g2'.2 rfl).2 b)⟩⟩
  obtain ⟨l, hl, hm⟩ := Im.mtb _ _ _ i1 x hx
  obtain ⟨ps, z⟩ := (g2.2 rfl).2 x hy _ hl
  exact hm.tbl ps z
theorem re_pair {ta tb : TE} {ma : M α} {mb : M β} (ha : RE K T ta ρ true ma) (hb : RE K T tb ρ true mb) : RE K T (tTup (tCons ta (tCons tb tNil))) ρ true (b2W ma mb fun a b => retW (a, b)) := fun Bs po φ σ H n st P p Q q =>
  ha Bs po φ σ H n st _ p _ fun a n1 v H1 fp pa a1 i1 g1 => hb Bs po φ σ H1 n1 (st.af a1) _ pa _ fun b n2 w H2 fq pb a2 i2 g2 => by
    refine ⟨by show 2 ≤ sizeLine; decide, fun t nt => ?_⟩
    have s := same_new (Same.refl H2) nt (o := .tup [v, w])
    have i1' := (i1.af g1.1 a2.fr).same s
    exact q _ n2 _ _ (fp ++ fq) pb ((a1.trans a2).trans (Af.same s)) (.tup upd_same (.cons i1' (.cons (i2.same s) .nil (List.append_nil _).symm) rfl)) (fp_two a1 i1 g1 g2)
def t3W {α β γ : Type} (ma : M α) (mb : M β) (mc : M γ) : M (T3 α β γ) := fun n P => ma n fun a n1 => mb n1 fun b n2 => mc n2 fun c n3 => P (⟨a, b, c⟩ : T3 α β γ) n3
theorem re_t3 {ta tb tc : TE} {ma : M α} {mb : M β} {mc : M γ} (ha : RE K T ta ρ true ma) (hb : RE K T tb ρ true mb) (hc : RE K T tc ρ true mc) : RE K T (tTup (tCons ta (tCons tb (tCons tc tNil)))) ρ true (t3W ma mb mc) := fun Bs po φ σ H n st P p Q q =>
  ha Bs po φ σ H n st _ p _ fun a n1 v H1 fp pa a1 i1 g1 => hb Bs po φ σ H1 n1 (st.af a1) _ pa _ fun b n2 w H2 fq pb a2 i2 g2 => hc Bs po φ σ H2 n2 ((st.af a1).af a2) _ pb _ fun c n3 u H3 fr pc a3 i3 g3 => by
    refine ⟨by show 3 ≤ sizeLine; decide, fun t nt => ?_⟩
    have s := same_new (Same.refl H3) nt (o := .tup [v, w, u])
    have i1' := ((i1.af g1.1 a2.fr).af g1.1 a3.fr).same s
    have i2' := (i2.af g2.1 a3.fr).same s
    have i3' := i3.same s
    exact q _ n3 _ _ _ pc (((a1.trans a2).trans a3).trans (Af.same s)) (.tup upd_same (.cons i1' (.cons i2' (.cons i3' .nil (List.append_nil _).symm) rfl) rfl)) (fp_two a1 i1 g1 (fp_two a2 i2 g2 g3))
/-! tests -/
theorem rt_val {t : TE} {m : M Bool} {f : Bool} (h : RE K T t ρ f m) : RT K T (tB t) ρ m := fun Bs po φ σ H n st P p Q q => h Bs po φ σ H n st _ p _ fun a n1 v H1 fp pa a1 i1 g1 => by
  cases i1
  exact ⟨_, rfl, q _ n1 H1 pa a1⟩
theorem rt_test {t : TE} {m : M Bool} {f : Bool} (h : RE K T t ρ f m) : RT K T (tTest t) ρ m := fun Bs po φ σ H n st P p Q q => h Bs po φ σ H n st _ p _ fun a n1 v H1 fp pa a1 i1 g1 => by
  cases i1
  exact ⟨_, rfl, q _ n1 H1 pa a1⟩
def andW (a b : M Bool) : M Bool := bindW a fun x => if x = true then b else retW false
def orW (a b : M Bool) : M Bool := bindW a fun x => if x = true then retW true else b
theorem rt_and {t u : TT} {a b : M Bool} (ha : RT K T t ρ a) (hb : RT K T u ρ b) : RT K T (tAnd t u) ρ (andW a b) := fun Bs po φ σ H n st P p Q q => ha Bs po φ σ H n st _ p _ fun x n1 H1 pa a1 => by
  cases x with
  | true => exact (if_pos rfl).mpr (hb Bs po φ σ H1 n1 (st.af a1) _ pa _ fun y n2 H2 pb a2 => q y n2 H2 pb (a1.trans a2))
  | false => exact (if_neg (by decide)).mpr (q false n1 H1 pa a1)
theorem rt_or {t u : TT} {a b : M Bool} (ha : RT K T t ρ a) (hb : RT K T u ρ b) : RT K T (tOr t u) ρ (orW a b) := fun Bs po φ σ H n st P p Q q => ha Bs po φ σ H n st _ p _ fun x n1 H1 pa a1 => by
  cases x with
  | false => exact (if_neg (by decide)).mpr (hb Bs po φ σ H1 n1 (st.af a1) _ pa _ fun y n2 H2 pb a2 => q y n2 H2 pb (a1.trans a2))
  | true => exact (if_pos rfl).mpr (q true n1 H1 pa a1)
theorem rt_not {t : TT} {a : M Bool} (ha : RT K T t ρ a) : RT K T (tNot t) ρ (mapW (fun b => !b) a) := fun Bs po φ σ H n st P p Q q => ha Bs po φ σ H n st _ p _ fun x n1 H1 pa a1 => q _ n1 H1 pa a1
theorem rt_yes : RT K T tYes ρ (retW true) := fun Bs po φ σ H n st P p Q q => q true n H p Af.refl
/-! truths as values -/
theorem re_and {ta tb : TE} {a b : M Bool} {f1 f2 : Bool} (ha : RE K T ta ρ f1 a) (hb : RE K T tb ρ f2 b) : RE K T (tAndV ta tb) ρ true (andW a b) := fun Bs po φ σ H n st P p Q q => ha Bs po φ σ H n st _ p _ fun x n1 v H1 fp pa a1 i1 g1 => by
  cases i1
  refine ⟨x, rfl, ?_⟩
  cases x with
  | true => exact (if_pos rfl).mpr (hb Bs po φ σ H1 n1 (st.af a1) _ pa _ fun y n2 w H2 fq pb a2 i2 g2 => q y n2 w H2 fq pb (a1.trans a2) i2 (by rw [Pu.pu i2]; exact Fp.nil))
  | false => exact (if_neg (by decide)).mpr (q false n1 _ H1 [] pa a1 (.bl _) Fp.nil)
theorem re_or {ta tb : TE} {a b : M Bool} {f1 f2 : Bool} (ha : RE K T ta ρ f1 a) (hb : RE K T tb ρ f2 b) : RE K T (tOrV ta tb) ρ true (orW a b) := fun Bs po φ σ H n st P p Q q => ha Bs po φ σ H n st _ p _ fun x n1 v H1 fp pa a1 i1 g1 => by
  cases i1
  refine ⟨x, rfl, ?_⟩
  cases x with
  | false => exact (if_neg (by decide)).mpr (hb Bs po φ σ H1 n1 (st.af a1) _ pa _ fun y n2 w H2 fq pb a2 i2 g2 => q y n2 w H2 fq pb (a1.trans a2) i2 (by rw [Pu.pu i2]; exact Fp.nil))
  | true => exact (if_pos rfl).mpr (q true n1 _ H1 [] pa a1 (.bl _) Fp.nil)
theorem re_not {t : TT} {a : M Bool} (ha : RT K T t ρ a) : RE K T (fun σ H Q => t σ H fun c H1 => Q (.bl (!c)) H1) ρ true (mapW (fun b => !b) a) := fun Bs po φ σ H n st P p Q q => ha Bs po φ σ H n st _ p _ fun x n1 H1 pa a1 => q _ n1 _ H1 [] pa a1 (.bl _) Fp.nil
theorem re_notV {t : TE} {a : M Bool} {f : Bool} (ha : RE K T t ρ f a) : RE K T (tNotV t) ρ true (mapW (fun b => !b) a) := fun Bs po φ σ H n st P p Q q => ha Bs po φ σ H n st _ p _ fun x n1 v H1 fp pa a1 i1 g1 => by
  cases i1
  exact ⟨_, rfl, q _ n1 _ H1 [] pa a1 (.bl _) Fp.nil⟩
theorem re_if {t : TT} {ta tb : TE} {c : M Bool} {a b : M α} {f : Bool} (hc : RT K T t ρ c) (ha : RE K T ta ρ f a) (hb : RE K T tb ρ f b) : RE K T (tIf t ta tb) ρ f (bindW c fun x => if x = true then a else b) := fun Bs po φ σ H n st P p Q q => hc Bs po φ σ H n st _ p _ fun x n1 H1 pa a1 => by
  cases x with
  | true => exact (if_pos rfl).mpr (ha Bs po φ σ H1 n1 (st.af a1) _ pa _ fun y n2 w H2 fq pb a2 i2 g2 => q y n2 w H2 fq pb (a1.trans a2) i2 (Fp.back a1.fr g2))
  | false => exact (if_neg (by decide)).mpr (hb Bs po φ σ H1 n1 (st.af a1) _ pa _ fun y n2 w H2 fq pb a2 i2 g2 => q y n2 w H2 fq pb (a1.trans a2) i2 (Fp.back a1.fr g2))
end
end Bf
namespace Bf
open PySem PySem.Spec PyProof.Rows L2 LamX NdefX
/-! ### slots forgotten -/
def wipeR (ρ : List Sl) : List Nat → List Sl
  | [] => ρ
  | v :: vs => (wipeR ρ vs).set v .any
theorem wipeR_len (ρ : List Sl) : ∀ vs, (wipeR ρ vs).length = ρ.length
  | [] => rfl
  | v :: vs => by unfold wipeR; rw [List.length_set, wipeR_len ρ vs]
theorem wipeR_get {ρ : List Sl} {i : Nat} {s : Sl} : ∀ {vs : List Nat}, (wipeR ρ vs)[i]? = some s → s = .any ∨ (ρ[i]? = some s ∧ i ∉ vs)
  | [], h => .inr ⟨h, List.not_mem_nil⟩
  | v :: vs, h => by
    unfold wipeR at h
    rw [List.getElem?_set] at h
    by_cases e : v = i
    · rw [if_pos e] at h
      split at h
      · exact .inl (Option.some.inj h).symm
      · cases h
    · rw [if_neg e] at h
      rcases wipeR_get h with z | ⟨z1, z2⟩
      · exact .inl z
      · exact .inr ⟨z1, fun m => (List.mem_cons.mp m).elim (fun q => e q.symm) z2⟩
theorem wipe_set {σ : L2.St} {i : Nat} {x : Option V} : ∀ {vs : List Nat}, i ∈ vs → wipe (σ.set i x) vs = wipe σ vs
  | [], h => absurd h List.not_mem_nil
  | v :: vs, h => by
    show (wipe (σ.set i x) vs).set v none = (wipe σ vs).set v none
    by_cases hm : i ∈ vs
    · rw [wipe_set hm]
    · have e : i = v := (List.mem_cons.mp h).elim id fun q => absurd q hm
      subst e
      have : ∀ (ws : List Nat), i ∉ ws → wipe (σ.set i x) ws = (wipe σ ws).set i x := by
        intro ws
        induction ws with
        | nil => intro _; rfl
        | cons w ws ih =>
          intro hw
          have h1 : w ≠ i := fun e => hw (by rw [e]; exact List.mem_cons_self)
          show (wipe (σ.set i x) ws).set w none = ((wipe σ ws).set w none).set i x
          rw [ih fun m => hw (List.mem_cons_of_mem _ m), List.set_comm _ _ (Ne.symm h1)]
      rw [this vs hm, List.set_set]
theorem wipe_wipe {σ : L2.St} (vs : List Nat) : wipe (wipe σ vs) vs = wipe σ vs := by
  have : ∀ ws us : List Nat, (∀ w ∈ ws, w ∈ us) → wipe (wipe σ ws) us = wipe σ us := by
    intro ws us
    induction ws with
    | nil => intro _; rfl
    | cons w ws ih =>
      intro h
      show wipe ((wipe σ ws).set w none) us = wipe σ us
      rw [wipe_set (h w List.mem_cons_self), ih fun x hx => h x (List.mem_cons_of_mem _ hx)]
  exact this vs vs fun w h => h
section
variable {K : PySem.W.Frag} {T : List (Addr × Str)} {Bs : Addr → HO → Prop} {po : Option Addr} {ρ : List Sl} {φ : Nat → List Addr} {σ : L2.St} {H H' : Hp} {n n' : Nat}
theorem ST.wipe (h : ST K T Bs po ρ φ σ H n) (vs : List Nat) : ST K T Bs po (wipeR ρ vs) φ (L2.wipe σ vs) H n where
  tabs := h.tabs
  base := h.base
  pot := h.pot
  len := by rw [wipe_length, wipeR_len, h.len]
  sl := fun i s e => by
    rcases wipeR_get e with rfl | ⟨e, hi⟩
    · trivial
    · rw [wipe_out hi]
      exact h.sl i s e
  dis := fun i j d e hij ei ej => by
    rcases wipeR_get ei with z | ⟨ei, _⟩
    · cases z
    · rcases wipeR_get ej with z | ⟨ej, _⟩
      · cases z
      · exact h.dis i j d e hij ei ej
/-- set to something that no other slot holds -/
theorem ST.put (h : ST K T Bs po ρ φ σ H n) {i : Nat} (hi : i < ρ.length) {v : V} {d : PyData} {fp : List Addr} (hv : Im K H v d fp) (hn : fp.Nodup) (hp : ∀ b ∈ fp, po ≠ some b ∧ (∀ o, ¬ Bs b o) ∧ ∀ j e, j ≠ i → ρ[j]? = some (.own e) → b ∉ φ j) :
    ST K T Bs po (ρ.set i (.own d)) (fun j => if j = i then fp else φ j) (σ.set i (some v)) H n := by
  refine ⟨h.tabs, h.base, h.pot, by rw [List.length_set, List.length_set, h.len], fun j s e => ?_, fun j k d1 e1 hjk ej ek => ?_⟩
  · rw [List.getElem?_set] at e ⊢
    by_cases hij : i = j
    · subst hij
      rw [if_pos rfl, if_pos hi] at e
      obtain rfl : Sl.own d = s := Option.some.inj e
      rw [if_pos rfl, if_pos (by rw [h.len]; exact hi)]
      show SlOk K Bs po H _ _ (if i = i then fp else φ i)
      rw [if_pos rfl]
      exact ⟨v, rfl, hv, hn, fun b hb => ⟨(hp b hb).1, (hp b hb).2.1⟩⟩
    · rw [if_neg hij] at e ⊢
      show SlOk K Bs po H _ _ (if j = i then fp else φ j)
      rw [if_neg (Ne.symm hij)]
      exact h.sl j s e
  · show ∀ b ∈ (if j = i then fp else φ j), b ∉ (if k = i then fp else φ k)
    rw [List.getElem?_set] at ej ek
    by_cases hji : i = j
    · subst hji
      rw [if_pos rfl]
      rw [if_neg hjk] at ek
      rw [if_neg (Ne.symm hjk)]
      exact fun b hb => (hp b hb).2.2 k e1 (Ne.symm hjk) ek
    · rw [if_neg hji] at ej
      rw [if_neg (Ne.symm hji)]
      by_cases hki : i = k
      · subst hki
        rw [if_pos rfl]
        exact fun b hb z => (hp b z).2.2 j d1 (Ne.symm hji) ej hb
      · rw [if_neg hki] at ek
        rw [if_neg (Ne.symm hki)]
        exact h.dis j k d1 e1 hjk ej ek
theorem ST.put0 (h : ST K T Bs po ρ φ σ H n) {i : Nat} (hi : i < ρ.length) {v : V} {d : PyData} (hv : Im K H v d []) : ST K T Bs po (ρ.set i (.own d)) (fun j => if j = i then [] else φ j) (σ.set i (some v)) H n :=
  h.put hi hv List.nodup_nil fun b hb => absurd hb List.not_mem_nil
theorem ST.fresh_new (h : ST K T Bs po ρ φ σ H n) {fp : List Addr} (f : Fp H po true fp) (i : Nat) : fp.Nodup ∧ ∀ b ∈ fp, po ≠ some b ∧ (∀ o, ¬ Bs b o) ∧ ∀ j e, j ≠ i → ρ[j]? = some (.own e) → b ∉ φ j :=
  ⟨(f.2 rfl).1, fun b hb => ⟨f.1 b hb, h.fresh_bs ((f.2 rfl).2 b hb), fun j e _ ej => h.fresh_own ((f.2 rfl).2 b hb) ej⟩⟩
end
section
variable {K : PySem.W.Frag} {T : List (Addr × Str)} {ρ : List Sl}
variable {α β γ δ : Type} [Enc α] [Enc β] [Enc γ] [Enc δ]
/-! ### targets -/
/-- D isn't in what the slots hold -/
def Out (D : Addr) (ρ : List Sl) (φ : Nat → List Addr) : Prop := ∀ i d, (ρ[i]? = some (.own d) ∨ ρ[i]? = some (.bor d)) → D ∉ φ i
theorem Out.put {D : Addr} {ρ : List Sl} {φ : Nat → List Addr} {i : Nat} {d : PyData} {fp : List Addr} (h : Out D ρ φ) (hf : D ∉ fp) : Out D (ρ.set i (.own d)) (fun j => if j = i then fp else φ j) := fun j e ej => by
  show D ∉ (if j = i then fp else φ j)
  by_cases hji : j = i
  · rw [if_pos hji]; exact hf
  · rw [if_neg hji]
    rw [List.getElem?_set, if_neg (Ne.symm hji)] at ej
    exact h j e ej
theorem Out.new {K : PySem.W.Frag} {T : List (Addr × Str)} {Bs : Addr → HO → Prop} {po : Option Addr} {ρ : List Sl} {φ : Nat → List Addr} {σ : L2.St} {H : Hp} {n : Nat} (st : ST K T Bs po ρ φ σ H n) {D : Addr} (nD : H D = none) : Out D ρ φ := fun i d e z => by
  rcases e with e | e
  · obtain ⟨v, h1, h2, h3⟩ := st.sl i _ e
    obtain ⟨o, ho, _⟩ := Im.mtb _ _ _ h2 D z
    rw [nD] at ho; cases ho
  · obtain ⟨v, h1, h2, h3⟩ := st.sl i _ e
    obtain ⟨o, ho, _⟩ := Im.mtb _ _ _ h2 D z
    rw [nD] at ho; cases ho
theorem Out.wipe {D : Addr} {ρ : List Sl} {φ : Nat → List Addr} (h : Out D ρ φ) (vs : List Nat) : Out D (wipeR ρ vs) φ := fun i d e => by
  rcases e with e | e
  · rcases wipeR_get e with z | ⟨z, _⟩
    · cases z
    · exact h i d (.inl z)
  · rcases wipeR_get e with z | ⟨z, _⟩
    · cases z
    · exact h i d (.inr z)
def RG (K : PySem.W.Frag) (T : List (Addr × Str)) (ts : List Nat) (g : TG) {α : Type} [Enc α] (a : α) (ρ ρ' : List Sl) : Prop := ∀ (Bs : Addr → HO → Prop) (po : Option Addr) (φ : Nat → List Addr) (σ : L2.St) (H : Hp) (n : Nat), ST K T Bs po ρ φ σ H n → ∀ v fp, Im K H v (enc a) fp → fp.Nodup →
  (∀ b ∈ fp, po ≠ some b ∧ (∀ o, ¬ Bs b o) ∧ ∀ j e, ρ[j]? = some (.own e) → b ∉ φ j) → ∀ Q : L2.St → Hp → Prop, (∀ σ' φ', ST K T Bs po ρ' φ' σ' H n → (∀ js : List Nat, (∀ t ∈ ts, t ∈ js) → wipe σ' js = wipe σ js) → (∀ D, Out D ρ φ → D ∉ fp → Out D ρ' φ') → Q σ' H) → g v σ H Q
theorem rg_name {i : Nat} {a : α} {ρ' : List Sl} (hi : i < ρ.length) (e : ρ.set i (.own (enc a)) = ρ') : RG K T [i] (gName i) a ρ ρ' := fun Bs po φ σ H n st v fp im nd hp Q q => by
  subst e
  exact q _ _ (st.put hi im nd fun b hb => ⟨(hp b hb).1, (hp b hb).2.1, fun j e _ ej => (hp b hb).2.2 j e ej⟩) (fun js h => wipe_set (h i List.mem_cons_self)) fun D o f => o.put f
/-- two targets -/
theorem rg_two {i j : Nat} {x : α × β} {ρ1 ρ' : List Sl} (hi : i < ρ.length) (hj : j < ρ.length) (hij : i ≠ j) (e : ρ.set i (.own (enc x.1)) = ρ1) (e2 : ρ1.set j (.own (enc x.2)) = ρ') : RG K T [i, j] (gTup K 2 (gCons (gName i) (gCons (gName j) gNil))) x ρ ρ' := fun Bs po φ σ H n st v fp im nd hp Q q => by
  cases im with
  | tup hT hA =>
    obtain ⟨v1, v2, f1, f2, rfl, h1, h2, rfl⟩ := ima2 hA
    obtain ⟨n1, n2, n3⟩ := List.nodup_append.mp nd
    have st1 := st.put hi h1 n1 fun b hb => ⟨(hp b (List.mem_append_left _ hb)).1, (hp b (List.mem_append_left _ hb)).2.1, fun j e _ ej => (hp b (List.mem_append_left _ hb)).2.2 j e ej⟩
    have st2 := st1.put (i := j) (by rw [List.length_set]; exact hj) h2 n2 fun b hb => ⟨(hp b (List.mem_append_right _ hb)).1, (hp b (List.mem_append_right _ hb)).2.1, fun k d hk ek => by
      show b ∉ (if k = i then f1 else φ k)
      by_cases hki : k = i
      · rw [if_pos hki]
        exact fun z => n3 b z b hb rfl
      · rw [if_neg hki]
        rw [List.getElem?_set, if_neg (Ne.symm hki)] at ek
        exact (hp b (List.mem_append_right _ hb)).2.2 k d ek⟩
    rw [e, e2] at st2
    refine ⟨_, _, rfl, hT.q, rfl, _, _, rfl, _, _, rfl, rfl, q _ _ st2 (fun js h => ?_) fun D o f => ?_⟩
    · rw [wipe_set (h j (List.mem_cons_of_mem _ List.mem_cons_self)), wipe_set (h i List.mem_cons_self)]
    · rw [← e2, ← e]
      exact (o.put fun z => f (List.mem_append_left _ z)).put fun z => f (List.mem_append_right _ z)
theorem rg_three {i j k : Nat} {x : T3 α β γ} {ρ1 ρ2 ρ' : List Sl} (hi : i < ρ.length) (hj : j < ρ.length) (hk : k < ρ.length) (hij : i ≠ j) (hik : i ≠ k) (hjk : j ≠ k) (e : ρ.set i (.own (enc x.a)) = ρ1) (e2 : ρ1.set j (.own (enc x.b)) = ρ2) (e3 : ρ2.set k (.own (enc x.c)) = ρ') :
    RG K T [i, j, k] (gTup K 3 (gCons (gName i) (gCons (gName j) (gCons (gName k) gNil)))) x ρ ρ' := fun Bs po φ σ H n st v fp im nd hp Q q => by
  cases im with
  | tup hT hA =>
    obtain ⟨v1, v2, v3, f1, f2, f3, rfl, h1, h2, h3, rfl⟩ := ima3 hA
    obtain ⟨n1, n23, n4⟩ := List.nodup_append.mp nd
    obtain ⟨n2, n3, n5⟩ := List.nodup_append.mp n23
    have st1 := st.put hi h1 n1 fun b hb => ⟨(hp b (List.mem_append_left _ hb)).1, (hp b (List.mem_append_left _ hb)).2.1, fun j e _ ej => (hp b (List.mem_append_left _ hb)).2.2 j e ej⟩
    have st2 := st1.put (i := j) (by rw [List.length_set]; exact hj) h2 n2 fun b hb => by
      have hb2 : b ∈ f1 ++ (f2 ++ f3) := List.mem_append_right _ (List.mem_append_left _ hb)
      refine ⟨(hp b hb2).1, (hp b hb2).2.1, fun k d hk ek => ?_⟩
      show b ∉ (if k = i then f1 else φ k)
      by_cases hki : k = i
      · rw [if_pos hki]
        exact fun z => n4 b z b (List.mem_append_left _ hb) rfl
      · rw [if_neg hki]
        rw [List.getElem?_set, if_neg (Ne.symm hki)] at ek
        exact (hp b hb2).2.2 k d ek
    have st3 := st2.put (i := k) (by rw [List.length_set, List.length_set]; exact hk) h3 n3 fun b hb => by
      have hb2 : b ∈ f1 ++ (f2 ++ f3) := List.mem_append_right _ (List.mem_append_right _ hb)
      refine ⟨(hp b hb2).1, (hp b hb2).2.1, fun l d hl el => ?_⟩
      show b ∉ (if l = j then f2 else if l = i then f1 else φ l)
      by_cases hlj : l = j
      · rw [if_pos hlj]
        exact fun z => n5 b z b hb rfl
      · rw [if_neg hlj]
        by_cases hli : l = i
        · rw [if_pos hli]
          exact fun z => n4 b z b (List.mem_append_right _ hb) rfl
        · rw [if_neg hli]
          rw [List.getElem?_set, if_neg (Ne.symm hlj), List.getElem?_set, if_neg (Ne.symm hli)] at el
          exact (hp b hb2).2.2 l d el
    rw [e, e2, e3] at st3
    refine ⟨_, _, rfl, hT.q, rfl, _, _, rfl, _, _, rfl, _, _, rfl, rfl, q _ _ st3 (fun js h => ?_) fun D o f => ?_⟩
    · rw [wipe_set (h k (by simp)), wipe_set (h j (by simp)), wipe_set (h i (by simp))]
    · rw [← e3, ← e2, ← e]
      exact ((o.put fun z => f (List.mem_append_left _ z)).put fun z => f (List.mem_append_right _ (List.mem_append_left _ z))).put fun z => f (List.mem_append_right _ (List.mem_append_right _ z))
/-! ### what is gone through -/
structure ItOk (K : PySem.W.Frag) (J : It) (H1 : Hp) {α : Type} [Enc α] (xs : List α) (fi : List Addr) : Prop where
  ex : ∃ (G : Hp → Prop) (Y : Nat → Hp → V → Hp → Prop), Walk J xs.length G Y ∧ G H1 ∧ (∀ H H' : Hp, (∀ b ∈ fi, ∀ l, H b = some (.lst l) → H' b = some (.lst l)) → (∀ b l, TupR H b l → TupR H' b l) → (∀ b ∈ fi, ∃ l, H1 b = some (.lst l) ∧ H b = some (.lst l)) → G H → G H') ∧
    ∀ i H x H', i < xs.length → G H → Y i H x H' → ∃ a, xs[i]? = some a ∧ Same H H' ∧ Im K H' x (enc a) []
  lst : ∀ b ∈ fi, ∃ l, H1 b = some (.lst l)
def RI (K : PySem.W.Frag) (T : List (Addr × Str)) (wi : TI) (ρ : List Sl) {α : Type} [Enc α] (m : M (List α)) : Prop := ∀ (Bs : Addr → HO → Prop) (po : Option Addr) (φ : Nat → List Addr) (σ : L2.St) (H : Hp) (n : Nat), ST K T Bs po ρ φ σ H n → ∀ P : List α → Nat → Prop, m n P →
  ∀ R : It → Hp → Prop, (∀ (xs : List α) (n' : Nat) (J : It) (H1 : Hp) (fi : List Addr), P xs n' → Af K T po H n H1 n' → ItOk K J H1 xs fi → (∀ b ∈ fi, po ≠ some b) → (∀ b ∈ fi, (∃ o, Bs b o) ∨ Fsh H b) → R J H1) → wi σ H R
theorem ri_range {t : TE} {m : M Nat} {f : Bool} (h : RE K T t ρ f m) : RI K T (iRng1 (tCons t tNil)) ρ (bindW m fun k => reqW (k < 4611686018427387904) (retW (List.range k))) := fun Bs po φ σ H n st P p R q => h Bs po φ σ H n st _ p _ fun k n1 v H1 fp pa a1 i1 g1 => by
  cases i1
  refine ⟨(k : Int), rfl, by omega, by have := pa.1; omega, ?_⟩
  refine q _ n1 _ H1 [] pa.2 a1 ⟨⟨fun _ => True, YFn fun i => .int (0 + i), ?_, trivial, fun _ _ _ _ _ _ => trivial, fun i H x H' hi _ y => ?_⟩, fun b hb => absurd hb List.not_mem_nil⟩ (fun b hb => absurd hb List.not_mem_nil) fun b hb => absurd hb List.not_mem_nil
  · rw [List.length_range, Int.toNat_natCast]
    exact walk_range
  · obtain ⟨rfl, rfl⟩ := y
    rw [List.length_range] at hi
    refine ⟨i, List.getElem?_range hi, Same.refl _, ?_⟩
    show Im K _ (.int (0 + (i : Int))) (.int (i : Int)) []
    rw [Int.zero_add]
    exact .int _
theorem ri_rangeZ {t : TE} {m : M Int} {f : Bool} (h : RE K T t ρ f m) : RI K T (iRng1 (tCons t tNil)) ρ (bindW m fun k => reqW (-(2 ^ 62) ≤ k ∧ k < 2 ^ 62) (retW (List.range k.toNat))) := fun Bs po φ σ H n st P p R q => h Bs po φ σ H n st _ p _ fun k n1 v H1 fp pa a1 i1 g1 => by
  cases i1
  refine ⟨k, rfl, pa.1.1, pa.1.2, ?_⟩
  refine q _ n1 _ H1 [] pa.2 a1 ⟨⟨fun _ => True, YFn fun i => .int (0 + i), ?_, trivial, fun _ _ _ _ _ _ => trivial, fun i H x H' hi _ y => ?_⟩, fun b hb => absurd hb List.not_mem_nil⟩ (fun b hb => absurd hb List.not_mem_nil) fun b hb => absurd hb List.not_mem_nil
  · rw [List.length_range]
    exact walk_range
  · obtain ⟨rfl, rfl⟩ := y
    rw [List.length_range] at hi
    refine ⟨i, List.getElem?_range hi, Same.refl _, ?_⟩
    show Im K _ (.int (0 + (i : Int))) (.int (i : Int)) []
    rw [Int.zero_add]
    exact .int _
def rng2 (a b : Nat) : List Nat := (List.range (b - a)).map (a + ·)
theorem ri_range2 {t u : TE} {m m2 : M Nat} {f f2 : Bool} (h : RE K T t ρ f m) (h2 : RE K T u ρ f2 m2) : RI K T (iRng2 (tCons t (tCons u tNil))) ρ (b2W m m2 fun a b => reqW (a < 4611686018427387904 ∧ b < 4611686018427387904) (retW (rng2 a b))) := fun Bs po φ σ H n st P p R q => h Bs po φ σ H n st _ p _ fun a n1 v H1 fp pa a1 i1 g1 =>
  h2 Bs po φ σ H1 n1 (st.af a1) _ pa _ fun b n2 w H2 fq pb a2 i2 g2 => by
  cases i1
  cases i2
  have h1 := pb.1.1
  have h2 := pb.1.2
  refine ⟨(a : Int), (b : Int), rfl, ⟨by omega, by omega, by omega, by omega⟩, ?_⟩
  have e : ((b : Int) - (a : Int)).toNat = b - a := by omega
  rw [e]
  refine q _ n2 _ H2 [] pb.2 (a1.trans a2) ⟨⟨fun _ => True, YFn fun i => .int ((a : Int) + i), ?_, trivial, fun _ _ _ _ _ _ => trivial, fun i H x H' hi _ y => ?_⟩, fun b hb => absurd hb List.not_mem_nil⟩ (fun b hb => absurd hb List.not_mem_nil) fun b hb => absurd hb List.not_mem_nil
  · unfold rng2
    rw [List.length_map, List.length_range]
    exact walk_range
  · obtain ⟨rfl, rfl⟩ := y
    unfold rng2 at hi ⊢
    rw [List.length_map, List.length_range] at hi
    refine ⟨a + i, by rw [List.getElem?_map, List.getElem?_range hi]; rfl, Same.refl _, ?_⟩
    show Im K _ (.int ((a : Int) + (i : Int))) (.int ((a + i : Nat) : Int)) []
    rw [show (a : Int) + (i : Int) = ((a + i : Nat) : Int) by omega]
    exact .int _
theorem yat_im [Pu α] {xs : List α} {vs : List V} {fp : List Addr} {H : Hp} {i : Nat} {x : V} (hA : ImA K H vs (xs.map enc) fp) (hi : i < xs.length) (e : vs[i]? = some x) : ∃ a, xs[i]? = some a ∧ Im K H x (enc a) [] := by
  obtain ⟨v, fq, h1, h2, _⟩ := hA.get (i := i) (d := enc xs[i]) (by rw [List.getElem?_map, List.getElem?_eq_getElem hi]; rfl)
  have : v = x := Option.some.inj (h1.symm.trans e)
  subst this
  have := Pu.pu h2
  subst this
  exact ⟨_, List.getElem?_eq_getElem hi, h2⟩
/-- items that no list is in stand whatever else is done, as long as tuples stay -/
theorem ima_stay [Pu α] {H H' : Hp} {xs : List α} {vs : List V} {fp : List Addr} (hA : ImA K H vs (xs.map enc) fp) (ht : ∀ b l, TupR H b l → TupR H' b l) : ImA K H' vs (xs.map enc) fp := ImA.stab ht _ _ _ hA fun b hb => by
  rw [ima_pu hA] at hb
  exact absurd hb List.not_mem_nil
theorem ri_tup [Pu α] {t : TE} {m : M (List α)} {f : Bool} (h : RE K T t ρ f m) : RI K T (iTup K t) ρ m := fun Bs po φ σ H n st P p R q => h Bs po φ σ H n st _ p _ fun xs n1 v H1 fp pa a1 i1 g1 => by
  obtain ⟨a, vs, rfl, hT, hA⟩ := im_tup i1
  have hl := hA.len
  rw [List.length_map] at hl
  refine ⟨a, rfl, ⟨_, hT.q⟩, q xs n1 _ H1 [] pa a1 ⟨⟨fun H => TupR H a vs ∧ ImA K H vs (xs.map enc) fp, fun i H x H' => YAt vs i H x H', ?_, ⟨hT, hA⟩, fun H H' _ ht _ g => ⟨ht _ _ g.1, ima_stay g.2 ht⟩, fun i H x H' hi g y => ?_⟩, fun b hb => absurd hb List.not_mem_nil⟩ (fun b hb => absurd hb List.not_mem_nil) fun b hb => absurd hb List.not_mem_nil⟩
  · rw [← hl]
    exact walk_tup.mono (fun H g => g.1.q) fun i H x H' _ _ y => y
  · obtain ⟨rfl, e⟩ := y
    obtain ⟨a, h1, h2⟩ := yat_im g.2 hi e
    exact ⟨a, h1, Same.refl _, h2⟩
theorem lst_fi {H : Hp} {t : Addr} {l : List V} {po : Option Addr} {fq : List Addr} {Bs : Addr → HO → Prop} : True := trivial
theorem ri_lst [Pu α] {t : TE} {m : M (Lst α)} (h : RE K T t ρ true m) : RI K T (iList K t) ρ (mapW Lst.l m) := fun Bs po φ σ H n st P p R q => h Bs po φ σ H n st _ p _ fun xs n1 v H1 fp pa a1 i1 g1 => by
  obtain ⟨a, vs, fq, rfl, hT, hA, e⟩ := im_lst i1
  have hl := hA.len
  have := ima_pu hA
  subst this e
  rw [List.length_map] at hl
  refine ⟨a, rfl, ⟨_, .inl (.inl hT)⟩, q xs.l n1 _ H1 [a] pa a1 ⟨⟨fun H => H a = some (.lst vs) ∧ ImA K H vs (xs.l.map enc) [], fun i H x H' => YAt vs i H x H', ?_, ⟨hT, hA⟩, fun H H' hl' ht _ g => ⟨hl' a List.mem_cons_self _ g.1, ima_stay g.2 ht⟩, fun i H x H' hi g y => ?_⟩, fun b hb => by rw [List.mem_singleton.mp hb]; exact ⟨_, hT⟩⟩ (fun b hb => g1.1 b hb) fun b hb => .inr ((g1.2 rfl).2 b hb)⟩
  · rw [← hl]
    exact walk_list.mono (fun H g => .inl (.inl g.1)) fun i H x H' _ _ y => y
  · obtain ⟨rfl, e⟩ := y
    obtain ⟨a, h1, h2⟩ := yat_im g.2 hi e
    exact ⟨a, h1, Same.refl _, h2⟩
/-- through a list that a slot holds, to be read only -/
theorem ri_bor [Pu α] {i : Nat} {xs : Lst α} (hi : ρ[i]? = some (.bor (enc xs))) : RI K T (iList K (tVar i)) ρ (retW xs.l) := fun Bs po φ σ H n st P p R q => by
  obtain ⟨v, h1, h2, h3⟩ := st.sl i _ hi
  obtain ⟨a, vs, fq, rfl, hT, hA, e⟩ := im_lst h2
  have hl := hA.len
  have := ima_pu hA
  subst this
  rw [List.length_map] at hl
  have ha : a ∈ φ i := by rw [e]; exact List.mem_cons_self
  refine ⟨_, h1, a, rfl, ⟨_, .inl (.inl hT)⟩, q xs.l n _ H [a] p Af.refl ⟨⟨fun H => H a = some (.lst vs) ∧ ImA K H vs (xs.l.map enc) [], fun i H x H' => YAt vs i H x H', ?_, ⟨hT, hA⟩, fun H H' hl' ht _ g => ⟨hl' a List.mem_cons_self _ g.1, ima_stay g.2 ht⟩, fun i H x H' hi g y => ?_⟩, fun b hb => by rw [List.mem_singleton.mp hb]; exact ⟨_, hT⟩⟩ (fun b hb => by rw [List.mem_singleton.mp hb]; exact (h3 a ha).1) fun b hb => .inl (by rw [List.mem_singleton.mp hb]; exact (h3 a ha).2)⟩
  · rw [← hl]
    exact walk_list.mono (fun H g => .inl (.inl g.1)) fun i H x H' _ _ y => y
  · obtain ⟨rfl, e⟩ := y
    obtain ⟨a, h1, h2⟩ := yat_im g.2 hi e
    exact ⟨a, h1, Same.refl _, h2⟩
theorem getElem_rev {α : Type} {xs : List α} {i : Nat} (hi : i < xs.length) : xs.reverse[i]? = xs[xs.length - 1 - i]? := List.getElem?_reverse hi
theorem ri_revT [Pu α] {t : TE} {m : M (List α)} {f : Bool} (h : RE K T t ρ f m) : RI K T (_root_.RT.iRevA K t) ρ (mapW List.reverse m) := fun Bs po φ σ H n st P p R q => h Bs po φ σ H n st _ p _ fun xs n1 v H1 fp pa a1 i1 g1 => by
  obtain ⟨a, vs, rfl, hT, hA⟩ := im_tup i1
  have hl := hA.len
  rw [List.length_map] at hl
  refine ⟨a, vs, rfl, .inr ⟨hT.q, q xs.reverse n1 _ H1 [] pa a1 ⟨⟨fun H => TupR H a vs ∧ ImA K H vs (xs.map enc) fp, fun i H x H' => H' = H ∧ vs[vs.length - 1 - i]? = some x, ?_, ⟨hT, hA⟩, fun H H' _ ht _ g => ⟨ht _ _ g.1, ima_stay g.2 ht⟩, fun i H x H' hi g y => ?_⟩, fun b hb => absurd hb List.not_mem_nil⟩ (fun b hb => absurd hb List.not_mem_nil) fun b hb => absurd hb List.not_mem_nil⟩⟩
  · rw [List.length_reverse, ← hl]
    exact walk_revT.mono (fun H g => g.1.q) fun i H x H' _ _ y => y
  · obtain ⟨rfl, e⟩ := y
    rw [List.length_reverse] at hi
    rw [hl] at e
    obtain ⟨a, h1, h2⟩ := yat_im g.2 (by omega) e
    exact ⟨a, by rw [getElem_rev hi]; exact h1, Same.refl _, h2⟩
theorem pair_im {H H' : Hp} {Tp : Addr} {v w : V} {a : α} {b : β} (nT : H Tp = none) (h1 : Im K H v (enc a) []) (h2 : Im K H w (enc b) []) : Same H (upd H Tp (.tup [v, w])) ∧ Im K (upd H Tp (.tup [v, w])) (.ref Tp) (enc (a, b)) [] := by
  have s := same_new (Same.refl H) nT (o := .tup [v, w])
  exact ⟨s, .tup upd_same (.cons (h1.same s) (.cons (h2.same s) .nil rfl) rfl)⟩
theorem ri_zipT [Pu α] [Pu β] {t u : TE} {m : M (List α)} {m2 : M (List β)} {f f2 : Bool} (h : RE K T t ρ f m) (h2 : RE K T u ρ f2 m2) : RI K T (_root_.RZ.iZipA K (tCons t (tCons u tNil))) ρ (b2W m m2 fun xs ys => retW (xs.zip ys)) := fun Bs po φ σ H n st P p R q => h Bs po φ σ H n st _ p _ fun xs n1 v H1 fp pa a1 i1 g1 =>
  h2 Bs po φ σ H1 n1 (st.af a1) _ pa _ fun ys n2 w H2 fq pb a2 i2 g2 => by
  have i1 := i1.af g1.1 a2.fr
  obtain ⟨a, vs, rfl, hT, hA⟩ := im_tup i1
  obtain ⟨b, ws, rfl, hT2, hA2⟩ := im_tup i2
  have hl := hA.len
  have hl2 := hA2.len
  rw [List.length_map] at hl hl2
  refine ⟨a, b, vs, ws, rfl, .inr ⟨hT.q, hT2.q, q (xs.zip ys) n2 _ H2 [] pb (a1.trans a2) ⟨⟨fun H => (TupR H a vs ∧ ImA K H vs (xs.map enc) fp) ∧ TupR H b ws ∧ ImA K H ws (ys.map enc) fq, YPair (fun i => vs[i]?) (fun i => ws[i]?), ?_, ⟨⟨hT, hA⟩, hT2, hA2⟩, fun H H' _ ht _ g => ⟨⟨ht _ _ g.1.1, ima_stay g.1.2 ht⟩, ht _ _ g.2.1, ima_stay g.2.2 ht⟩, fun i H x H' hi g y => ?_⟩, fun b hb => absurd hb List.not_mem_nil⟩ (fun b hb => absurd hb List.not_mem_nil) fun b hb => absurd hb List.not_mem_nil⟩⟩
  · exact (walk_zipT (n := (xs.zip ys).length) (by rw [List.length_zip, hl, hl2])).mono (fun H g => ⟨g.1.1.q, g.2.1.q⟩) fun i H x H' _ _ y => y
  · obtain ⟨Tp, vx, vy, rfl, nT, rfl, ex, ey⟩ := y
    rw [List.length_zip] at hi
    obtain ⟨c, h1, h2⟩ := yat_im g.1.2 (by omega) ex
    obtain ⟨d, h3, h4⟩ := yat_im g.2.2 (by omega) ey
    obtain ⟨s, im⟩ := pair_im (H' := H) nT h2 h4
    exact ⟨(c, d), by rw [List.getElem?_zip_eq_some]; exact ⟨h1, h3⟩, s, im⟩
theorem ri_zipL [Pu α] [Pu β] {t u : TE} {m : M (Lst α)} {m2 : M (Lst β)} (h : RE K T t ρ true m) (h2 : RE K T u ρ true m2) : RI K T (_root_.RZ.iZipA K (tCons t (tCons u tNil))) ρ (b2W m m2 fun xs ys => retW (xs.l.zip ys.l)) := fun Bs po φ σ H n st P p R q => h Bs po φ σ H n st _ p _ fun xs n1 v H1 fp pa a1 i1 g1 =>
  h2 Bs po φ σ H1 n1 (st.af a1) _ pa _ fun ys n2 w H2 fq pb a2 i2 g2 => by
  have i1 := i1.af g1.1 a2.fr
  obtain ⟨a, vs, f1, rfl, hT, hA, e1⟩ := im_lst i1
  obtain ⟨b, ws, f2, rfl, hT2, hA2, e2⟩ := im_lst i2
  have z1 := ima_pu hA
  have z2 := ima_pu hA2
  subst z1 z2 e1 e2
  have hl := hA.len
  have hl2 := hA2.len
  rw [List.length_map] at hl hl2
  have g2' := Fp.back a1.fr g2
  refine ⟨a, b, vs, ws, rfl, .inl ⟨.inl (.inl hT), .inl (.inl hT2), q (xs.l.zip ys.l) n2 _ H2 [a, b] pb (a1.trans a2) ⟨⟨fun H => (H a = some (.lst vs) ∧ ImA K H vs (xs.l.map enc) []) ∧ H b = some (.lst ws) ∧ ImA K H ws (ys.l.map enc) [], YPair (fun i => vs[i]?) (fun i => ws[i]?), ?_, ⟨⟨hT, hA⟩, hT2, hA2⟩, fun H H' hl' ht _ g => ⟨⟨hl' _ (by simp) _ g.1.1, ima_stay g.1.2 ht⟩, hl' _ (by simp) _ g.2.1, ima_stay g.2.2 ht⟩, fun i H x H' hi g y => ?_⟩, fun c hc => ?_⟩ (fun c hc => ?_) fun c hc => ?_⟩⟩
  · exact (walk_zip (n := (xs.l.zip ys.l).length) (by rw [List.length_zip, hl, hl2])).mono (fun H g => ⟨.inl (.inl g.1.1), .inl (.inl g.2.1)⟩) fun i H x H' _ _ y => y
  · obtain ⟨Tp, vx, vy, rfl, nT, rfl, ex, ey⟩ := y
    rw [List.length_zip] at hi
    obtain ⟨c, h1, h2⟩ := yat_im g.1.2 (by omega) ex
    obtain ⟨d, h3, h4⟩ := yat_im g.2.2 (by omega) ey
    obtain ⟨s, im⟩ := pair_im (H' := H) nT h2 h4
    exact ⟨(c, d), by rw [List.getElem?_zip_eq_some]; exact ⟨h1, h3⟩, s, im⟩
  · simp only [List.mem_cons, List.not_mem_nil, or_false] at hc
    rcases hc with rfl | rfl
    · exact ⟨_, hT⟩
    · exact ⟨_, hT2⟩
  · simp only [List.mem_cons, List.not_mem_nil, or_false] at hc
    rcases hc with rfl | rfl
    · exact g1.1 _ List.mem_cons_self
    · exact g2.1 _ List.mem_cons_self
  · simp only [List.mem_cons, List.not_mem_nil, or_false] at hc
    rcases hc with rfl | rfl
    · exact .inr ((g1.2 rfl).2 _ List.mem_cons_self)
    · exact .inr ((g2'.2 rfl).2 _ List.mem_cons_self)
def enW (xs : List α) : List (Nat × α) := (List.range xs.length).zip xs
theorem enW_get {xs : List α} {i : Nat} {a : α} (h : xs[i]? = some a) : (enW xs)[i]? = some (i, a) := by
  unfold enW
  rw [List.getElem?_zip_eq_some]
  exact ⟨List.getElem?_range (List.getElem?_eq_some_iff.mp h).1, h⟩
theorem enW_len {xs : List α} : (enW xs).length = xs.length := by
  unfold enW
  rw [List.length_zip, List.length_range, Nat.min_self]
theorem ri_enT [Pu α] {t : TE} {m : M (List α)} {f : Bool} (h : RE K T t ρ f m) : RI K T (iEnT K (tCons t tNil)) ρ (mapW enW m) := fun Bs po φ σ H n st P p R q => h Bs po φ σ H n st _ p _ fun xs n1 v H1 fp pa a1 i1 g1 => by
  obtain ⟨a, vs, rfl, hT, hA⟩ := im_tup i1
  have hl := hA.len
  rw [List.length_map] at hl
  refine ⟨a, vs, rfl, hT.q, q (enW xs) n1 _ H1 [] pa a1 ⟨⟨fun H => TupR H a vs ∧ ImA K H vs (xs.map enc) fp, YPair (fun i => some (.int (i : Nat))) (fun i => vs[i]?), ?_, ⟨hT, hA⟩, fun H H' _ ht _ g => ⟨ht _ _ g.1, ima_stay g.2 ht⟩, fun i H x H' hi g y => ?_⟩, fun b hb => absurd hb List.not_mem_nil⟩ (fun b hb => absurd hb List.not_mem_nil) fun b hb => absurd hb List.not_mem_nil⟩
  · rw [enW_len, ← hl]
    exact walk_enT.mono (fun H g => g.1.q) fun i H x H' _ _ y => y
  · obtain ⟨Tp, vx, vy, rfl, nT, rfl, ex, ey⟩ := y
    rw [enW_len] at hi
    obtain ⟨d, h3, h4⟩ := yat_im g.2 hi ey
    obtain rfl : V.int (i : Nat) = vx := Option.some.inj ex
    obtain ⟨s, im⟩ := pair_im (H' := H) (a := i) nT (.int _) h4
    exact ⟨(i, d), enW_get h3, s, im⟩
theorem ri_enL [Pu α] {i : Nat} {xs : Lst α} (hi : ρ[i]? = some (.bor (enc xs))) : RI K T (iEnum K (tCons (tVar i) tNil)) ρ (retW (enW xs.l)) := fun Bs po φ σ H n st P p R q => by
  obtain ⟨v, h1, h2, h3⟩ := st.sl i _ hi
  obtain ⟨a, vs, fq, rfl, hT, hA, e⟩ := im_lst h2
  have hl := hA.len
  have := ima_pu hA
  subst this
  rw [List.length_map] at hl
  have ha : a ∈ φ i := by rw [e]; exact List.mem_cons_self
  refine ⟨_, h1, a, vs, rfl, .inl (.inl hT), q (enW xs.l) n _ H [a] p Af.refl ⟨⟨fun H => H a = some (.lst vs) ∧ ImA K H vs (xs.l.map enc) [], YPair (fun i => some (.int (i : Nat))) (fun i => vs[i]?), ?_, ⟨hT, hA⟩, fun H H' hl' ht _ g => ⟨hl' a List.mem_cons_self _ g.1, ima_stay g.2 ht⟩, fun i H x H' hi g y => ?_⟩, fun b hb => by rw [List.mem_singleton.mp hb]; exact ⟨_, hT⟩⟩ (fun b hb => by rw [List.mem_singleton.mp hb]; exact (h3 a ha).1) fun b hb => .inl (by rw [List.mem_singleton.mp hb]; exact (h3 a ha).2)⟩
  · rw [enW_len, ← hl]
    exact walk_enum.mono (fun H g => .inl (.inl g.1)) fun i H x H' _ _ y => y
  · obtain ⟨Tp, vx, vy, rfl, nT, rfl, ex, ey⟩ := y
    rw [enW_len] at hi
    obtain ⟨d, h3, h4⟩ := yat_im g.2 hi ey
    obtain rfl : V.int (i : Nat) = vx := Option.some.inj ex
    obtain ⟨s, im⟩ := pair_im (H' := H) (a := i) nT (.int _) h4
    exact ⟨(i, d), enW_get h3, s, im⟩
/-! ### comprehensions -/
def lcW0 {α β : Type} (mt : α → M Bool) (me : α → M β) : List α → List β → M (Lst β)
  | [], acc => retW ⟨acc⟩
  | x :: xs, acc => bindW (mt x) fun b => if b = true then bindW (me x) fun y => lcW0 mt me xs (acc ++ [y]) else lcW0 mt me xs acc
theorem lcW_ex {α β : Type} (mt : α → M Bool) (me : α → M β) : ∃ g : List α → List β → M (Lst β), (∀ acc, g [] acc = retW ⟨acc⟩) ∧ ∀ x xs acc, g (x :: xs) acc = bindW (mt x) fun b => if b = true then bindW (me x) fun y => g xs (acc ++ [y]) else g xs acc := ⟨lcW0 mt me, fun _ => rfl, fun _ _ _ => rfl⟩
/-- sealed: it isn't gone through of itself -/
noncomputable def lcW {α β : Type} (mt : α → M Bool) (me : α → M β) : List α → List β → M (Lst β) := Classical.choose (lcW_ex mt me)
theorem lcW_nil {α β : Type} {mt : α → M Bool} {me : α → M β} {acc : List β} : lcW mt me [] acc = retW ⟨acc⟩ := (Classical.choose_spec (lcW_ex mt me)).1 acc
theorem lcW_cons {α β : Type} {mt : α → M Bool} {me : α → M β} {x : α} {xs : List α} {acc : List β} : lcW mt me (x :: xs) acc = bindW (mt x) fun b => if b = true then bindW (me x) fun y => lcW mt me xs (acc ++ [y]) else lcW mt me xs acc := (Classical.choose_spec (lcW_ex mt me)).2 x xs acc
theorem re_lc [Pu β] {wi : TI} {g : TG} {tt : TT} {te : TE} {vs ts : List Nat} {mi : M (List α)} {mt : α → M Bool} {me : α → M β} {ρw : List Sl} {ρx : α → List Sl} {f : Bool} (hw : wipeR ρ vs = ρw) (hi : RI K T wi ρ mi) (hts : ∀ t ∈ ts, t ∈ vs) (hg : ∀ a, RG K T ts g a ρw (ρx a))
    (ht : ∀ a, RT K T tt (ρx a) (mt a)) (he : ∀ a, RE K T te (ρx a) f (me a)) : RE K T (tLc wi g tt te vs) ρ true (bindW mi fun xs => reqW (xs.length ≤ sizeLine) (lcW mt me xs [])) := fun Bs po φ σ H n st P p Q q =>
  hi Bs po φ σ H n st _ p _ fun xs n1 J H1 fi pa a1 ok hfp hfi D nD => by
    subst hw
    obtain ⟨⟨G, Y, w, g0, gs, gy⟩, hlst⟩ := ok
    have st1 := st.af a1
    have hDp : po ≠ some D := st1.fresh_pot fun o e => by rw [nD] at e; cases e
    have sD : Same H1 (upd H1 D (.lst [])) := same_new (Same.refl H1) nD
    have hfD : ∀ b ∈ fi, b ≠ D := fun b hb e => by
      obtain ⟨l, hl⟩ := hlst b hb
      rw [e, nD] at hl
      cases hl
    refine lc_it w (fun i H' => ∃ (n' : Nat) (acc : List β) (vs' : List V), Af K T po H1 n1 H' n' ∧ G H' ∧ H' D = some (.lst vs') ∧ ImA K H' vs' (acc.map enc) [] ∧ acc.length ≤ i ∧ lcW mt me (xs.drop i) acc n' P) ⟨n1, [], [], Af.same sD, gs H1 _ (fun b hb l e => sD b _ e) (fun b l e => sD _ _ e) (fun b hb => (by obtain ⟨l, hl⟩ := hlst b hb; exact ⟨l, hl, hl⟩)) g0, upd_same, .nil, Nat.le_refl _, by rw [List.drop_zero]; exact pa.2⟩ (fun i H' _ z => by obtain ⟨_, _, _, _, z, _⟩ := z; exact z) ?_ ?_
    · rintro i x HA HB hi' ⟨n', acc, vs', af, gA, eD, hA, hacc, pl⟩ hy
      obtain ⟨a, ha, sAB, imx⟩ := gy i HA x HB hi' gA hy
      have afB := af.trans (Af.same sAB)
      have stB := (st1.af afB).wipe vs
      have hdr : xs.drop i = a :: xs.drop (i + 1) := by
        rw [List.drop_eq_getElem_cons hi']
        congr 1
        exact Option.some.inj ((List.getElem?_eq_getElem hi').symm.trans ha)
      rw [hdr, lcW_cons] at pl
      have keepG : ∀ HC nC, Af K T po H1 n1 HC nC → G HA → (∀ b ∈ fi, ∀ l, HA b = some (.lst l) → HC b = some (.lst l)) → (∀ b l, TupR HA b l → TupR HC b l) → G HC := fun HC nC afC gA' h1 h2 => gs HA HC h1 h2 (fun b hb => by
        obtain ⟨l, hl⟩ := hlst b hb
        exact ⟨l, hl, af.fr.keep b _ (hfp b hb) hl fun ps z => nomatch z⟩) gA'
      refine hg a Bs po φ (L2.wipe σ vs) HB n' stB x [] imx List.nodup_nil (fun b hb => absurd hb List.not_mem_nil) _ fun σ' φ' stx hwp _ => ⟨(hwp vs hts).trans (wipe_wipe vs), ?_⟩
      refine ht a Bs po φ' σ' HB n' stx _ pl _ fun b n2 HC pb a2 => ?_
      have eDB := sAB _ _ eD
      have eDC := a2.fr.keep D _ hDp eDB fun ps z => nomatch z
      cases b with
      | false =>
        refine (if_neg (by decide)).mpr ⟨n2, acc, vs', afB.trans a2, ?_, eDC, (hA.same sAB).af (fun b hb => absurd hb List.not_mem_nil) a2.fr, by omega, ?_⟩
        · exact keepG HC n2 (afB.trans a2) gA (fun b hb l e => a2.fr.keep b _ (hfp b hb) (sAB _ _ e) fun ps z => nomatch z) fun b l e => a2.fr.tup b l (sAB _ _ e)
        · exact pb
      | true =>
        refine (if_pos rfl).mpr (he a Bs po φ' σ' HC n2 (stx.af a2) _ pb _ fun y n3 u HE fp' pe a3 iy gy' => ?_)
        have eDE := a3.fr.keep D _ hDp eDC fun ps z => nomatch z
        have z := Pu.pu iy
        subst z
        have hAE := ((hA.same sAB).af (po := po) (fun b hb => absurd hb List.not_mem_nil) a2.fr).af (po := po) (fun b hb => absurd hb List.not_mem_nil) a3.fr
        have hl := hA.len
        rw [List.length_map] at hl
        have afE := (afB.trans a2).trans a3
        have keepU : ∀ b o, b ≠ D → HE b = some o → (upd HE D (.lst (vs' ++ [u]))) b = some o := fun b o nb e => by rw [upd_ne nb]; exact e
        have tupU : ∀ b l, TupR HE b l → TupR (upd HE D (.lst (vs' ++ [u]))) b l := fun b l e => keepU _ _ (fun z => by unfold TupR at e; rw [z, eDE] at e; cases e) e
        have afU : Af K T po H1 n1 (upd HE D (.lst (vs' ++ [u]))) n3 := by
          refine ⟨⟨fun b o hb e t => ?_, fun b l e => tupU b l (afE.fr.tup b l e)⟩, fun t => tabs_upd (afE.tabs t) eDE, fun p hp pp => ?_⟩
          · exact keepU b o (fun z => by rw [z, nD] at e; cases e) (afE.fr.keep b o hb e t)
          · obtain ⟨x1, x2, x3, e, h⟩ := afE.pot p hp pp
            exact ⟨x1, x2, x3, keepU _ _ (fun z => hDp (by rw [← z]; exact hp)) e, h⟩
        refine ⟨vs', eDE, ?_, n3, acc ++ [y], vs' ++ [u], afU, ?_, upd_same, ?_, by rw [List.length_append, List.length_singleton]; omega, pe⟩
        · rw [hl]
          have := pa.1
          omega
        · exact keepG _ n3 afU gA (fun b hb l e => keepU b _ (hfD b hb) (a3.fr.keep b _ (hfp b hb) (a2.fr.keep b _ (hfp b hb) (sAB _ _ e) fun ps z => nomatch z) fun ps z => nomatch z)) fun b l e => tupU b l (a3.fr.tup b l (a2.fr.tup b l (sAB _ _ e)))
        · rw [List.map_append]
          exact ImA.stab tupU _ _ _ (hAE.app (.cons iy .nil rfl)) fun b hb => absurd hb List.not_mem_nil
    · rintro HA ⟨n', acc, vs', af, gA, eD, hA, hacc, pl⟩
      rw [List.drop_length, lcW_nil] at pl
      have st2 := st1.af af
      exact q ⟨acc⟩ n' _ HA [D] pl (a1.trans af) (.lst eD hA rfl) (Fp.back a1.fr (fp_new st1 ⟨List.nodup_cons.mpr ⟨List.not_mem_nil, List.nodup_nil⟩, fun x hx => by rw [List.mem_singleton.mp hx]; exact nD⟩))
end
end Bf
namespace Bf
open PySem PySem.Spec PyProof.Rows L2 LamX NdefX
inductive Ctl (R B S : Type) where
  | nxt (s : S)
  | ret (r : R)
  | brk (b : B)
def Tpk (K : PySem.W.Frag) (H H' : Hp) : Prop := ∀ b xs, TupR H b xs → TupR H' b xs
def Sub (Bs Bs' : Addr → HO → Prop) : Prop := ∀ b o, Bs b o → Bs' b o
section
variable {K : PySem.W.Frag} {T : List (Addr × Str)} {Bs : Addr → HO → Prop} {po : Option Addr} {ρ : List Sl} {φ : Nat → List Addr} {σ : L2.St} {H H' : Hp} {n n' : Nat}
theorem tabs_updM {T : List (Addr × Str)} {H : Hp} {D : Addr} {u u' : HO} (t : Tabs T H) (h : H D = some u) (hm : Mtb u) : Tabs T (upd H D u') := fun y hy => by
  obtain ⟨ps, t1, t2, t3⟩ := t y hy
  refine ⟨ps, ?_, t2, fun pos cv hc => ?_⟩
  · rw [upd_ne (fun e => by rw [e, h] at t1; cases t1; exact hm)]
    exact t1
  · obtain ⟨c, e1, e2⟩ := t3 pos cv hc
    refine ⟨c, e1, ?_⟩
    rw [upd_ne (fun e => by rw [e, h] at e2; unfold CodeO at e2; cases e2; exact hm)]
    exact e2
theorem ST.writeM (h : ST K T Bs po ρ φ σ H n) {i : Nat} {a : Addr} {d d' : PyData} {u u' : HO} (hi : ρ[i]? = some (.own d)) (hv : σ[i]? = some (some (.ref a))) (ha : a ∈ φ i) (e : H a = some u) (hm : Mtb u) (hn : Im K (upd H a u') (.ref a) d' (φ i)) :
    ST K T Bs po (ρ.set i (.own d')) φ σ (upd H a u') n ∧ Tpk K H (upd H a u') := by
  obtain ⟨v, h1, h2, h3, h4⟩ := h.sl i _ hi
  have hil := (List.getElem?_eq_some_iff.mp hi).1
  have tup : ∀ b xs, TupR H b xs → TupR (upd H a u') b xs := fun b xs z => by
    unfold TupR at z ⊢
    rw [upd_ne (fun q => by rw [q, e] at z; cases z; exact hm)]
    exact z
  refine ⟨⟨tabs_updM h.tabs e hm, fun b o z => ?_, fun p hp => ?_, by rw [List.length_set]; exact h.len, fun j s ej => ?_, fun j k d1 e1 hjk ej ek => ?_⟩, tup⟩
  · obtain ⟨z1, z2, z3⟩ := h.base b o z
    exact ⟨by rw [upd_ne (fun q => (h4 a ha).2 o (by rw [← q]; exact z))]; exact z1, z2, z3⟩
  · obtain ⟨x, y, z, hH, hh⟩ := h.pot p hp
    exact ⟨x, y, z, by rw [upd_ne (fun q => (h4 a ha).1 (by rw [← q]; exact hp))]; exact hH, hh⟩
  · rw [List.getElem?_set] at ej
    by_cases hij : i = j
    · subst hij
      rw [if_pos rfl, if_pos hil] at ej
      obtain rfl : Sl.own d' = s := Option.some.inj ej
      exact ⟨_, hv, hn, h3, h4⟩
    · rw [if_neg hij] at ej
      have z := h.sl j s ej
      cases s with
      | any => trivial
      | pot => exact z
      | scr ns => exact z
      | bor d1 =>
        obtain ⟨v', z1, z2, z3⟩ := z
        refine ⟨v', z1, Im.stab tup _ _ _ z2 fun b hb xs eb _ => ?_, z3⟩
        rw [upd_ne (fun q => by obtain ⟨o, ho⟩ := (z3 b hb).2; exact (h4 a ha).2 o (by rw [← q]; exact ho))]
        exact eb
      | own d1 =>
        obtain ⟨v', z1, z2, z3, z4⟩ := z
        refine ⟨v', z1, Im.stab tup _ _ _ z2 fun b hb xs eb _ => ?_, z3, z4⟩
        rw [upd_ne (fun q => h.dis i j d d1 hij hi ej a ha (by rw [← q]; exact hb))]
        exact eb
      | lkd d1 =>
        obtain ⟨b, od, u1, z1, z2, z3, z4⟩ := z
        refine ⟨b, od, u1, z1, z2, by rw [upd_ne (fun q => by rw [q, e] at z3; cases z3; exact hm)]; exact z3, ?_⟩
        rcases z4 with ⟨kvs, ps, y1, y2, y3, y4⟩ | ⟨kvs, ps, y1, y2, y3, y4⟩
        · exact .inl ⟨kvs, ps, y1, y2, y3, ImA.stab tup _ _ _ y4 fun b hb => absurd hb List.not_mem_nil⟩
        · exact .inr ⟨kvs, ps, y1, y2, y3, ImA.stab tup _ _ _ y4 fun b hb => absurd hb List.not_mem_nil⟩
  · have back : ∀ (j : Nat) (d1 : PyData), (ρ.set i (.own d'))[j]? = some (.own d1) → ∃ d2, ρ[j]? = some (.own d2) := fun j d1 ej => by
      rw [List.getElem?_set] at ej
      by_cases hij : i = j
      · subst hij; exact ⟨d, hi⟩
      · rw [if_neg hij] at ej; exact ⟨d1, ej⟩
    obtain ⟨d2, ej⟩ := back j d1 ej
    obtain ⟨d3, ek⟩ := back k e1 ek
    exact h.dis j k d2 d3 hjk ej ek
theorem ST.write (h : ST K T Bs po ρ φ σ H n) {i : Nat} {a : Addr} {d d' : PyData} {vs vs' : List V} (hi : ρ[i]? = some (.own d)) (hv : σ[i]? = some (some (.ref a))) (ha : a ∈ φ i) (e : H a = some (.lst vs)) (hn : Im K (upd H a (.lst vs')) (.ref a) d' (φ i)) :
    ST K T Bs po (ρ.set i (.own d')) φ σ (upd H a (.lst vs')) n ∧ Tpk K H (upd H a (.lst vs')) := h.writeM hi hv ha e trivial hn
end
section
variable {K : PySem.W.Frag} {T : List (Addr × Str)} {ρ : List Sl}
variable {α β γ δ : Type} [Enc α] [Enc β] [Enc γ] [Enc δ]
variable {R B S S2 : Type} [Enc R] {C : Option Addr → Prop}
/-! ## statements -/
def RB (K : PySem.W.Frag) (T : List (Addr × Str)) (C : Option Addr → Prop) (t : TS) (ρ : List Sl) {R B S : Type} [Enc R] (m : M (Ctl R B S)) (ρn : S → List Sl) (ρb : B → List Sl) : Prop :=
  ∀ (Bs : Addr → HO → Prop) (po : Option Addr), C po → ∀ (σ : L2.St) (H : Hp) (n : Nat), STe K T Bs po ρ σ H n → ∀ P : Ctl R B S → Nat → Prop, m n P → ∀ D : Ends,
    (∀ s n' σ' H' Bs', P (.nxt s) n' → Sub Bs Bs' → STe K T Bs' po (ρn s) σ' H' n' → Tpk K H H' → D.nx σ' H') →
    (∀ b n' σ' H' Bs', P (.brk b) n' → Sub Bs Bs' → STe K T Bs' po (ρb b) σ' H' n' → Tpk K H H' → D.bk σ' H') →
    (∀ r n' v H' fp, P (.ret r) n' → Tabs T H' → (∀ b o, Bs b o → H' b = some o) → (∀ a, po = some a → Pot H' a n') → Tpk K H H' → Im K H' v (enc r) fp → fp.Nodup → (∀ b ∈ fp, po ≠ some b ∧ ∀ o, ¬ Bs b o) → D.rt v H') → t D σ H
def Tpk.refl {H : Hp} : Tpk K H H := fun _ _ h => h
theorem Tpk.trans {H H1 H2 : Hp} (a : Tpk K H H1) (b : Tpk K H1 H2) : Tpk K H H2 := fun x xs h => b x xs (a x xs h)
variable {ρn : S → List Sl} {ρb : B → List Sl}
/-- what is behind a step -/
theorem RB.go {t : TS} {m : M (Ctl R B S)} (h : RB K T C t ρ m ρn ρb) {Bs Bs1 : Addr → HO → Prop} {po : Option Addr} (hC : C po) {σ : L2.St} {H0 H : Hp} {n : Nat} (st : STe K T Bs1 po ρ σ H n) {P : Ctl R B S → Nat → Prop} (p : m n P) {D : Ends} (sub : Sub Bs Bs1) (tp : Tpk K H0 H)
    (h1 : ∀ s n' σ' H' Bs', P (.nxt s) n' → Sub Bs Bs' → STe K T Bs' po (ρn s) σ' H' n' → Tpk K H0 H' → D.nx σ' H') (h2 : ∀ b n' σ' H' Bs', P (.brk b) n' → Sub Bs Bs' → STe K T Bs' po (ρb b) σ' H' n' → Tpk K H0 H' → D.bk σ' H')
    (h3 : ∀ r n' v H' fp, P (.ret r) n' → Tabs T H' → (∀ b o, Bs b o → H' b = some o) → (∀ a, po = some a → Pot H' a n') → Tpk K H0 H' → Im K H' v (enc r) fp → fp.Nodup → (∀ b ∈ fp, po ≠ some b ∧ ∀ o, ¬ Bs b o) → D.rt v H') : t D σ H :=
  h Bs1 po hC σ H n st P p D (fun s n' σ' H' Bs' p' sb st' tp' => h1 s n' σ' H' Bs' p' (fun b o z => sb b o (sub b o z)) st' (tp.trans tp')) (fun s n' σ' H' Bs' p' sb st' tp' => h2 s n' σ' H' Bs' p' (fun b o z => sb b o (sub b o z)) st' (tp.trans tp'))
    fun r n' v H' fp p' tb bs pt tp' im nd hf => h3 r n' v H' fp p' tb (fun b o z => bs b o (sub b o z)) pt (tp.trans tp') im nd fun b hb => ⟨(hf b hb).1, fun o z => (hf b hb).2 o (sub b o z)⟩
theorem rb_asg {te : TE} {g : TG} {tu : TS} {ts : List Nat} {m : M α} {k : α → M (Ctl R B S)} {ρ2 : α → List Sl} (he : RE K T te ρ true m) (hg : ∀ a, RG K T ts g a ρ (ρ2 a)) (hu : ∀ a, RB K T C tu (ρ2 a) (k a) ρn ρb) : RB K T C (tSeq (tAsg te g) tu) ρ (bindW m k) ρn ρb :=
  fun Bs po hC σ H n ⟨φ, st⟩ P p D h1 h2 h3 => he Bs po φ σ H n st _ p _ fun a n1 v H1 fp pa a1 im f => by
    have st1 := st.af a1
    refine hg a Bs po φ σ H1 n1 st1 v fp im (f.2 rfl).1 (fun b hb => ⟨f.1 b hb, st.fresh_bs ((f.2 rfl).2 b hb), fun j e ej => st.fresh_own ((f.2 rfl).2 b hb) ej⟩) _ fun σ' φ' st2 _ _ => ?_
    exact (hu a).go (Bs := Bs) hC ⟨φ', st2⟩ pa (fun b o z => z) a1.fr.tup h1 h2 h3
/-- a, b = x, y -/
theorem rb_par {t1 t2 : TE} {tu : TS} {i j : Nat} {m1 : M α} {m2 : M β} {k : α → β → M (Ctl R B S)} {ρ2 : α → β → List Sl} (ha : RE K T t1 ρ true m1) (hb : RE K T t2 ρ true m2) (hi : i < ρ.length) (hj : j < ρ.length) (hij : i ≠ j) (e : ∀ a b, (ρ.set i (.own (enc a))).set j (.own (enc b)) = ρ2 a b)
    (hu : ∀ a b, RB K T C tu (ρ2 a b) (k a b) ρn ρb) : RB K T C (tSeq (tPar i j (tCons t1 (tCons t2 tNil))) tu) ρ (b2W m1 m2 k) ρn ρb :=
  fun Bs po hC σ H n ⟨φ, st⟩ P p D h1 h2 h3 => ha Bs po φ σ H n st _ p _ fun a n1 v H1 fp pa a1 i1 g1 => hb Bs po φ σ H1 n1 (st.af a1) _ pa _ fun b n2 w H2 fq pb a2 i2 g2 => by
    have a12 := a1.trans a2
    have st2 := st.af a12
    have i1' := i1.af g1.1 a2.fr
    have g2' := Fp.back a1.fr g2
    have st3 := st2.put hi i1' (g1.2 rfl).1 (st.fresh_new g1 i).2
    have st4 := st3.put (i := j) (by rw [List.length_set]; exact hj) i2 (g2.2 rfl).1 fun c hc => by
      obtain ⟨z1, z2, z3⟩ := (st.fresh_new g2' j).2 c hc
      refine ⟨z1, z2, fun l d hl el => ?_⟩
      show c ∉ (if l = i then fp else φ l)
      by_cases hli : l = i
      · rw [if_pos hli]
        intro z
        obtain ⟨x, hx, hm⟩ := Im.mtb _ _ _ i1 c z
        obtain ⟨ps, q⟩ := (g2.2 rfl).2 c hc _ hx
        exact hm.tbl ps q
      · rw [if_neg hli]
        rw [List.getElem?_set, if_neg (Ne.symm hli)] at el
        exact z3 l d hl el
    rw [e a b] at st4
    exact ⟨v, w, rfl, (hu a b).go (Bs := Bs) hC ⟨_, st4⟩ pb (fun b o z => z) a12.fr.tup h1 h2 h3⟩
/-- x += e -/
theorem rb_aug {te : TE} {tu : TS} {i : Nat} {r : R2} {a : α} {m : M β} {f : α → β → M γ} {k : γ → M (Ctl R B S)} {ρ2 : γ → List Sl} (hr : OpW K r f) (hi : ρ[i]? = some (.own (enc a))) (he : RE K T te ρ true m) (e : ∀ c, ρ.set i (.own (enc c)) = ρ2 c) (hu : ∀ c, RB K T C tu (ρ2 c) (k c) ρn ρb) :
    RB K T C (tSeq (tAug i te r) tu) ρ (bindW (bindW m (f a)) k) ρn ρb := fun Bs po hC σ H n ⟨φ, st⟩ P p D h1 h2 h3 => by
  obtain ⟨v, e1, e2, e3, e4⟩ := st.sl i _ hi
  refine ⟨v, e1, he Bs po φ σ H n st _ p _ fun b n1 w H1 fp pa a1 im g => hr a b H1 v w (φ i) fp (e2.af (fun b hb => (e4 b hb).1) a1.fr) im n1 _ pa _ fun c H3 v' fr pc s3 i3 g3 => ?_⟩
  have af := a1.trans (Af.same s3 (T := T) (po := po))
  have st4 := st.set af (i := i) (List.getElem?_eq_some_iff.mp hi).1 i3 (Fp.back a1.fr (fp_new (st.af a1) g3))
  rw [e c] at st4
  exact (hu c).go (Bs := Bs) hC ⟨_, st4⟩ pc (fun b o z => z) af.fr.tup h1 h2 h3
/-- e; as a statement -/
theorem rb_drop {te : TE} {tu : TS} {m : M α} {k : α → M (Ctl R B S)} {f : Bool} (he : RE K T te ρ f m) (hu : ∀ a, RB K T C tu ρ (k a) ρn ρb) : RB K T C (tSeq (tDrop te) tu) ρ (bindW m k) ρn ρb := fun Bs po hC σ H n ⟨φ, st⟩ P p D h1 h2 h3 =>
  he Bs po φ σ H n st _ p _ fun a n1 v H1 fp pa a1 im g => (hu a).go (Bs := Bs) hC ⟨φ, st.af a1⟩ pa (fun b o z => z) a1.fr.tup h1 h2 h3
/-- xs.append(e) -/
theorem rb_append [Pu α] {te : TE} {tu : TS} {i : Nat} {xs : Lst α} {m : M α} {k : α → M (Ctl R B S)} {ρ2 : α → List Sl} {f : Bool} (hi : ρ[i]? = some (.own (enc xs))) (he : RE K T te ρ f m) (e : ∀ a, ρ.set i (.own (enc (⟨xs.l ++ [a]⟩ : Lst α))) = ρ2 a) (hu : ∀ a, RB K T C tu (ρ2 a) (k a) ρn ρb) :
    RB K T C (tSeq (tDrop (tBM K "list" rAppend (tVar i) (tCons te tNil))) tu) ρ (bindW m fun a => reqW (xs.l.length < sizeLine) (k a)) ρn ρb := fun Bs po hC σ H n ⟨φ, st⟩ P p D h1 h2 h3 => by
  obtain ⟨v, e1, e2, e3, e4⟩ := st.sl i _ hi
  obtain ⟨a, vs, fq, rfl, hT, hA, eφ⟩ := im_lst e2
  refine ⟨_, e1, .inl ⟨rfl, vs, .inl (.inl hT)⟩, he Bs po φ σ H n st _ p _ fun x n1 w H1 fp pa a1 im g => ?_⟩
  have z := Pu.pu im
  subst z
  have z := ima_pu hA
  subst z
  have st1 := st.af a1
  have ha : a ∈ φ i := by rw [eφ]; exact List.mem_cons_self
  have hT1 := a1.fr.keep a _ (e4 a ha).1 hT fun ps z => nomatch z
  have hA1 := hA.af (po := po) (fun b hb => absurd hb List.not_mem_nil) a1.fr
  have hl := hA.len
  rw [List.length_map] at hl
  refine ⟨a, vs, w, rfl, rfl, hT1, by rw [hl]; exact pa.1, ?_⟩
  have tup : ∀ b xs, TupR H1 b xs → TupR (upd H1 a (.lst (vs ++ [w]))) b xs := fun b xs z => by
    unfold TupR at z ⊢
    rw [upd_ne (fun q => by rw [q, hT1] at z; cases z)]
    exact z
  obtain ⟨st2, tp⟩ := st1.write (d' := enc (⟨xs.l ++ [x]⟩ : Lst α)) (vs' := vs ++ [w]) hi e1 ha hT1 (by
    rw [eφ]
    refine .lst upd_same ?_ rfl
    show ImA K _ (vs ++ [w]) ((xs.l ++ [x]).map enc) []
    rw [List.map_append]
    exact ImA.stab tup _ _ _ (hA1.app (.cons im .nil rfl)) fun b hb => absurd hb List.not_mem_nil)
  rw [e x] at st2
  exact (hu x).go (Bs := Bs) hC ⟨φ, st2⟩ pa.2 (fun b o z => z) (Tpk.trans a1.fr.tup tp) h1 h2 h3
/-- xs[j] = e -/
theorem rb_setix [Pu α] {ts : TSet} (hts : ∀ (a : Addr) (v : V) (ys : List V) (j : Nat) (H : Hp) (Q : Hp → Prop), H a = some (.lst ys) → j < ys.length → Q (upd H a (.lst (ys.set j v))) → ts (.ref a) (.int (j : Int)) v H Q) {te tj : TE} {tu : TS} {i : Nat} {xs : Lst α} {m : M α} {mj : M Nat} {k : α → Nat → M (Ctl R B S)} {ρ2 : α → Nat → List Sl} {f f2 : Bool} (hi : ρ[i]? = some (.own (enc xs))) (he : RE K T te ρ f m) (hj : RE K T tj ρ f2 mj) (e : ∀ a j, ρ.set i (.own (enc (⟨xs.l.set j a⟩ : Lst α))) = ρ2 a j) (hu : ∀ a j, RB K T C tu (ρ2 a j) (k a j) ρn ρb) :
    RB K T C (tSeq (tAsg te (gSub (tVar i) tj ts)) tu) ρ (b2W m mj fun a j => reqW (j < xs.l.length) (k a j)) ρn ρb := fun Bs po hC σ H n ⟨φ, st⟩ P p D h1 h2 h3 => by
  refine he Bs po φ σ H n st _ p _ fun x n1 w H1 fp pa a1 im g => ?_
  have st1 := st.af a1
  obtain ⟨v, e1, e2, e3, e4⟩ := st1.sl i _ hi
  obtain ⟨a, vs, fq, rfl, hT, hA, eφ⟩ := im_lst e2
  refine ⟨_, e1, hj Bs po φ σ H1 n1 st1 _ pa _ fun j n2 y H2 fp2 pb a2 im2 g2 => ?_⟩
  have z := Pu.pu im
  subst z
  have z := ima_pu hA
  subst z
  cases im2
  have st2 := st1.af a2
  have ha : a ∈ φ i := by rw [eφ]; exact List.mem_cons_self
  have hT1 := a2.fr.keep a _ (e4 a ha).1 hT fun ps z => nomatch z
  have hA1 := hA.af (po := po) (fun b hb => absurd hb List.not_mem_nil) a2.fr
  have imx := im.af (po := po) (fun b hb => absurd hb List.not_mem_nil) a2.fr
  have hl := hA.len
  rw [List.length_map] at hl
  refine hts a w vs j H2 _ hT1 (by rw [hl]; exact pb.1) ?_
  have tup : ∀ b xs, TupR H2 b xs → TupR (upd H2 a (.lst (vs.set j w))) b xs := fun b xs z => by
    unfold TupR at z ⊢
    rw [upd_ne (fun q => by rw [q, hT1] at z; cases z)]
    exact z
  have hset : ∀ {ys : List α} {us : List V} (j : Nat), ImA K H2 us (ys.map enc) [] → ImA K H2 (us.set j w) ((ys.set j x).map enc) [] := by
    intro ys
    induction ys with
    | nil => intro us j h; cases h; exact .nil
    | cons y ys ih =>
      intro us j h
      cases h with
      | cons a b q =>
        have e1 := ima_pu b
        have e2 := Pu.pu a
        subst e1 e2
        cases j with
        | zero => exact .cons imx b rfl
        | succ j => exact .cons a (ih j b) rfl
  obtain ⟨st3, tp⟩ := st2.write (d' := enc (⟨xs.l.set j x⟩ : Lst α)) (vs' := vs.set j w) hi e1 ha hT1 (by
    rw [eφ]
    exact .lst upd_same (ImA.stab tup _ _ _ (hset j hA1) fun b hb => absurd hb List.not_mem_nil) rfl)
  rw [e x j] at st3
  exact (hu x j).go (Bs := Bs) hC ⟨φ, st3⟩ pb.2 (fun b o z => z) (Tpk.trans (Tpk.trans a1.fr.tup a2.fr.tup) tp) h1 h2 h3
/-- return e -/
theorem rb_ret {te : TE} {tu : TS} {m : M R} (he : RE K T te ρ true m) : RB K T C (tSeq (tRet te) tu) ρ (bindW m fun r => retW (.ret r)) ρn ρb := fun Bs po hC σ H n ⟨φ, st⟩ P p D h1 h2 h3 =>
  he Bs po φ σ H n st _ p _ fun a n1 v H1 fp pa a1 im g => by
    have st1 := st.af a1
    exact h3 a n1 v H1 fp pa st1.tabs (fun b o z => (st1.base b o z).1) st1.pot a1.fr.tup im (g.2 rfl).1 fun b hb => ⟨g.1 b hb, st.fresh_bs ((g.2 rfl).2 b hb)⟩
/-- return xs, xs an own one -/
theorem rb_retv {tu : TS} {i : Nat} {r : R} (hi : ρ[i]? = some (.own (enc r))) : RB K T C (tSeq (tRet (tVar i)) tu) ρ (retW (.ret r)) ρn ρb := fun Bs po hC σ H n ⟨φ, st⟩ P p D h1 h2 h3 => by
  obtain ⟨v, e1, e2, e3, e4⟩ := st.sl i _ hi
  exact ⟨v, e1, h3 r n v H (φ i) p st.tabs (fun b o z => (st.base b o z).1) st.pot Tpk.refl e2 e3 e4⟩
theorem rb_end {s : S} (h : RhoLe (ρn s) ρ) : RB K T C tNext ρ (retW (.nxt s) : M (Ctl R B S)) ρn ρb := fun Bs po hC σ H n ⟨φ, st⟩ P p D h1 h2 h3 => h1 s n σ H Bs p (fun _ _ z => z) ⟨φ, st.le h⟩ Tpk.refl
theorem rb_brk {tu : TS} {s : B} (h : RhoLe (ρb s) ρ) : RB K T C (tSeq tBreak tu) ρ (retW (.brk s) : M (Ctl R B S)) ρn ρb := fun Bs po hC σ H n ⟨φ, st⟩ P p D h1 h2 h3 => h2 s n σ H Bs p (fun _ _ z => z) ⟨φ, st.le h⟩ Tpk.refl
/-- never come to -/
theorem rb_dead {tu : TS} : RB K T C (tSeq (fun _ _ _ => False) tu) ρ (fun _ _ => False : M (Ctl R B S)) ρn ρb := fun Bs po hC σ H n st P p D h1 h2 h3 => p.elim
theorem rb_freeze {t : TS} {i : Nat} {d : PyData} {m : M (Ctl R B S)} {ρ2 : List Sl} (hi : ρ[i]? = some (.own d)) (e : ρ.set i (.bor d) = ρ2) (h : RB K T C t ρ2 m ρn ρb) : RB K T C t ρ m ρn ρb := fun Bs po hC σ H n ⟨φ, st⟩ P p D h1 h2 h3 => by
  have st2 := st.freeze hi
  rw [e] at st2
  exact h.go (Bs := Bs) hC ⟨φ, st2⟩ p (fun b o z => .inl z) Tpk.refl h1 h2 h3
def seqW (m : M (Ctl R B S)) (k : S → M (Ctl R B S2)) : M (Ctl R B S2) := fun n P => m n fun c n' => match c with
  | .nxt s => k s n' P
  | .ret r => P (.ret r) n'
  | .brk b => P (.brk b) n'
theorem rb_if {c : TT} {tA tB tu : TS} {mc : M Bool} {mA mB : M (Ctl R B S2)} {ρ1 : S2 → List Sl} {k : S2 → M (Ctl R B S)} (hc : RT K T c ρ mc) (hA : RB K T C tA ρ mA ρ1 ρb) (hB : RB K T C tB ρ mB ρ1 ρb) (hu : ∀ s, RB K T C tu (ρ1 s) (k s) ρn ρb) :
    RB K T C (tSeq (tIfS c tA tB) tu) ρ (bindW mc fun b => seqW (if b = true then mA else mB) k) ρn ρb := fun Bs po hC σ H n ⟨φ, st⟩ P p D h1 h2 h3 => hc Bs po φ σ H n st _ p _ fun b n1 H1 pa a1 => by
  have key : ∀ {t : TS} {m : M (Ctl R B S2)}, RB K T C t ρ m ρ1 ρb → (seqW m k) n1 P → t { D with nx := fun σ' H' => tu D σ' H' } σ H1 := fun {t m} ht pm =>
    ht.go (Bs := Bs) hC ⟨φ, st.af a1⟩ (P := fun c n' => match c with | .nxt s => k s n' P | .ret r => P (.ret r) n' | .brk b => P (.brk b) n') pm (fun _ _ z => z) a1.fr.tup
      (fun s n' σ' H' Bs' p' sb st' tp' => (hu s).go (Bs := Bs) hC st' p' sb tp' h1 h2 h3) h2 h3
  cases b with
  | true => exact (if_pos rfl).mpr (key hA pa)
  | false => exact (if_neg (by decide)).mpr (key hB pa)
def forW0 {α : Type} (f : α → S → M (Ctl R S S)) : List α → S → M (Ctl R B S)
  | [], s => retW (.nxt s)
  | x :: xs, s => fun n P => f x s n fun c n' => match c with
    | .nxt s' => forW0 f xs s' n' P
    | .ret r => P (.ret r) n'
    | .brk s' => P (.nxt s') n'
omit [Enc R] in
theorem forW_ex {α : Type} (f : α → S → M (Ctl R S S)) : ∃ g : List α → S → M (Ctl R B S), (∀ s, g [] s = retW (.nxt s)) ∧ ∀ x xs s, g (x :: xs) s = fun n P => f x s n fun c n' => match c with
    | .nxt s' => g xs s' n' P
    | .ret r => P (.ret r) n'
    | .brk s' => P (.nxt s') n' := ⟨forW0 f, fun _ => rfl, fun _ _ _ => rfl⟩
/-- sealed: it isn't gone through of itself -/
noncomputable def forW {α : Type} (f : α → S → M (Ctl R S S)) : List α → S → M (Ctl R B S) := Classical.choose (forW_ex f)
omit [Enc R] in
theorem forW_nil {α : Type} {f : α → S → M (Ctl R S S)} {s : S} : (forW f [] s : M (Ctl R B S)) = retW (.nxt s) := (Classical.choose_spec (forW_ex f)).1 s
omit [Enc R] in
theorem forW_cons {α : Type} {f : α → S → M (Ctl R S S)} {x : α} {xs : List α} {s : S} : (forW f (x :: xs) s : M (Ctl R B S)) = fun n P => f x s n fun c n' => match c with
    | .nxt s' => forW f xs s' n' P
    | .ret r => P (.ret r) n'
    | .brk s' => P (.nxt s') n' := (Classical.choose_spec (forW_ex f)).2 x xs s
theorem rb_for {wi : TI} {g : TG} {tb tu : TS} {ts : List Nat} {mi : M (List α)} {s0 : S2} {f : α → S2 → M (Ctl R S2 S2)} {k : S2 → M (Ctl R B S)} {ρl : S2 → List Sl} {ρx : α → S2 → List Sl} (hi : RI K T wi ρ mi) (h0 : RhoLe (ρl s0) ρ) (hg : ∀ a s, RG K T ts g a (ρl s) (ρx a s))
    (hb : ∀ a s, RB K T C tb (ρx a s) (f a s) ρl ρl) (hu : ∀ s, RB K T C tu (ρl s) (k s) ρn ρb) : RB K T C (tSeq (tFor wi g tb) tu) ρ (bindW mi fun xs => seqW (forW f xs s0) k) ρn ρb := fun Bs po hC σ H n ⟨φ, st⟩ P p D h1 h2 h3 =>
  hi Bs po φ σ H n st _ p _ fun xs n1 J H1 fi pa a1 ok hfp hfi => by
    obtain ⟨⟨G, Y, w, g0, gs, gy⟩, hlst⟩ := ok
    have st1 := (st.af a1).le h0
    -- the lists gone through stand, too
    have st2 : ST K T (fun b o => Bs b o ∨ (b ∈ fi ∧ H1 b = some o)) po (ρl s0) φ σ H1 n1 := by
      refine ⟨st1.tabs, fun b o z => ?_, st1.pot, st1.len, fun i s e => ?_, st1.dis⟩
      · rcases z with z | ⟨z, e⟩
        · exact st1.base b o z
        · obtain ⟨l, hl⟩ := hlst b z
          rw [e] at hl
          cases hl
          exact ⟨e, fun ps q => (by cases q), hfp b z⟩
      · have z := st1.sl i s e
        cases s with
        | any => trivial
        | pot => exact z
        | scr ns => obtain ⟨a, z1, z2⟩ := z; exact ⟨a, z1, z2.elim (fun ⟨o, q1, q2⟩ => .inl ⟨o, .inl q1, q2⟩) .inr⟩
        | lkd d => exact z
        | bor d => obtain ⟨v, z1, z2, z3⟩ := z; exact ⟨v, z1, z2, fun b hb => ⟨(z3 b hb).1, let ⟨o, q⟩ := (z3 b hb).2; ⟨o, .inl q⟩⟩⟩
        | own d =>
          obtain ⟨v, z1, z2, z3, z4⟩ := z
          refine ⟨v, z1, z2, z3, fun b hb => ⟨(z4 b hb).1, fun o q => ?_⟩⟩
          rcases q with q | ⟨q, _⟩
          · exact (z4 b hb).2 o q
          · rcases hfi b q with ⟨o', z'⟩ | z'
            · exact (z4 b hb).2 o' z'
            · obtain ⟨t, ht, hle⟩ := h0.get e
              cases hle
              exact st.fresh_own z' ht hb
    refine for_it w (fun i σ' H' => ∃ (s : S2) (n' : Nat) (Bs' : Addr → HO → Prop), Sub (fun b o => Bs b o ∨ (b ∈ fi ∧ H1 b = some o)) Bs' ∧ STe K T Bs' po (ρl s) σ' H' n' ∧ G H' ∧ Tpk K H1 H' ∧ (forW f (xs.drop i) s : M (Ctl R B S2)) n' (fun c n' => match c with | .nxt s => k s n' P | .ret r => P (.ret r) n' | .brk b => P (.brk b) n')) ⟨s0, n1, _, fun _ _ z => z, ⟨φ, st2⟩, g0, Tpk.refl, by rw [List.drop_zero]; exact pa⟩ (fun i σ' H' _ z => by obtain ⟨_, _, _, _, _, z, _⟩ := z; exact z) ?_ ?_
    · rintro i x σ' HA HB hi' ⟨s, n', Bs', sub, ⟨φ', st'⟩, gA, tpA, pl⟩ hy
      obtain ⟨a, ha, sAB, imx⟩ := gy i HA x HB hi' gA hy
      have stB := st'.af (Af.same sAB)
      have hdr : xs.drop i = a :: xs.drop (i + 1) := by
        rw [List.drop_eq_getElem_cons hi']
        congr 1
        exact Option.some.inj ((List.getElem?_eq_getElem hi').symm.trans ha)
      rw [hdr, forW_cons] at pl
      refine hg a s Bs' po φ' σ' HB n' stB x [] imx List.nodup_nil (fun b hb => absurd hb List.not_mem_nil) _ fun σ2 φ2 stx _ _ => ?_
      have subB : Sub Bs Bs' := fun b o z => sub b o (.inl z)
      have tpAB : Tpk K H HB := Tpk.trans (Tpk.trans a1.fr.tup tpA) fun _ _ e => sAB _ _ e
      -- what goes on holds the lists as they were
      have keep : ∀ (Bs2 : Addr → HO → Prop) (s2 : S2) σ3 HC n3, Sub Bs' Bs2 → STe K T Bs2 po (ρl s2) σ3 HC n3 → Tpk K HB HC → G HC := fun Bs2 s2 σ3 HC n3 sb ⟨φ3, st3⟩ tp3 => by
        refine gs HA HC (fun b hb l e => ?_) (fun b l e => tp3 b l (sAB _ _ e)) (fun b hb => ?_) gA
        · obtain ⟨l', hl'⟩ := hlst b hb
          have z1 := (st'.base b _ (sub b _ (.inr ⟨hb, hl'⟩))).1
          rw [e] at z1
          have z2 : l = l' := by injection z1 with z1; injection z1
          have z3 := (st3.base b _ (sb b _ (sub b _ (.inr ⟨hb, hl'⟩)))).1
          rw [z2]
          exact z3
        · obtain ⟨l', hl'⟩ := hlst b hb
          exact ⟨l', hl', (st'.base b _ (sub b _ (.inr ⟨hb, hl'⟩))).1⟩
      refine (hb a s).go (Bs := Bs') hC ⟨φ2, stx⟩ pl (fun _ _ z => z) (Tpk.refl) (fun s2 n2 σ3 H3 Bs3 p3 sb3 st3 tp3 => ?_) (fun s2 n2 σ3 H3 Bs3 p3 sb3 st3 tp3 => ?_) fun r n2 v H3 fp p3 tb bs pt tp3 im nd hf => ?_
      · exact ⟨s2, n2, Bs3, fun b o z => sb3 b o (sub b o z), st3, keep Bs3 s2 σ3 H3 n2 sb3 st3 tp3, Tpk.trans tpA (Tpk.trans (fun _ _ e => sAB _ _ e) tp3), p3⟩
      · exact (hu s2).go (Bs := Bs) hC st3 p3 (fun b o z => sb3 b o (subB b o z)) (Tpk.trans tpAB tp3) h1 h2 h3
      · exact h3 r n2 v H3 fp p3 tb (fun b o z => bs b o (subB b o z)) pt (Tpk.trans tpAB tp3) im nd fun b hb => ⟨(hf b hb).1, fun o z => (hf b hb).2 o (subB b o z)⟩
    · rintro σ' HA ⟨s, n', Bs', sub, st', gA, tpA, pl⟩
      rw [List.drop_length, forW_nil] at pl
      exact (hu s).go (Bs := Bs) hC st' pl (fun b o z => sub b o (.inl z)) (Tpk.trans a1.fr.tup tpA) h1 h2 h3
/-- while c: body -/
def whileW (c : S → M Bool) (b : S → M (Ctl R S S)) (s0 : S) : M (Ctl R B S) := fun n P => ∃ I : Nat → S → Nat → Prop, (∃ k, I k s0 n) ∧ ∀ k s n, I k s n → c s n fun t n1 => if t = true then b s n1 fun x n2 => match x with
    | .nxt s' => ∃ k', k' < k ∧ I k' s' n2
    | .ret r => P (.ret r) n2
    | .brk s' => P (.nxt s') n2
  else P (.nxt s) n1
theorem rb_while {tc : TT} {tb tu : TS} {s0 : S2} {c : S2 → M Bool} {f : S2 → M (Ctl R S2 S2)} {k : S2 → M (Ctl R B S)} {ρl : S2 → List Sl} (h0 : RhoLe (ρl s0) ρ) (hc : ∀ s, RT K T tc (ρl s) (c s)) (hb : ∀ s, RB K T C tb (ρl s) (f s) ρl ρl) (hu : ∀ s, RB K T C tu (ρl s) (k s) ρn ρb) :
    RB K T C (tSeq (tWhile tc tb) tu) ρ (seqW (whileW c f s0) k) ρn ρb := fun Bs po hC σ H n ⟨φ, st⟩ P p D h1 h2 h3 => by
  obtain ⟨I, ⟨k0, i0⟩, step⟩ := p
  refine ⟨fun m σ' H' => ∃ (s : S2) (n' : Nat) (Bs' : Addr → HO → Prop), Sub Bs Bs' ∧ STe K T Bs' po (ρl s) σ' H' n' ∧ Tpk K H H' ∧ I m s n', ⟨k0, s0, n, Bs, fun _ _ z => z, ⟨φ, st.le h0⟩, Tpk.refl, i0⟩, ?_⟩
  rintro m σ' HA ⟨s, n', Bs', sub, ⟨φ', st'⟩, tpA, im⟩
  refine hc s Bs' po φ' σ' HA n' st' _ (step m s n' im) _ fun t n1 H1 pa a1 => ?_
  have stB := st'.af a1
  cases t with
  | false => exact (if_neg (by decide)).mpr ((hu s).go (Bs := Bs) hC ⟨φ', stB⟩ pa sub (Tpk.trans tpA a1.fr.tup) h1 h2 h3)
  | true =>
    refine (if_pos rfl).mpr ⟨fun σ' H' => ∃ m', m' < m ∧ ∃ (s : S2) (n' : Nat) (Bs' : Addr → HO → Prop), Sub Bs Bs' ∧ STe K T Bs' po (ρl s) σ' H' n' ∧ Tpk K H H' ∧ I m' s n', fun _ _ z => z, ?_⟩
    refine (hb s).go (Bs := Bs') hC ⟨φ', stB⟩ pa (fun _ _ z => z) Tpk.refl (fun s2 n2 σ3 H3 Bs3 p3 sb3 st3 tp3 => ?_) (fun s2 n2 σ3 H3 Bs3 p3 sb3 st3 tp3 => ?_) fun r n2 v H3 fp p3 tb bs pt tp3 im nd hf => ?_
    · obtain ⟨k', hk, ik⟩ := p3
      exact ⟨k', hk, s2, n2, Bs3, fun b o z => sb3 b o (sub b o z), st3, Tpk.trans (Tpk.trans tpA a1.fr.tup) tp3, ik⟩
    · exact (hu s2).go (Bs := Bs) hC st3 p3 (fun b o z => sb3 b o (sub b o z)) (Tpk.trans (Tpk.trans tpA a1.fr.tup) tp3) h1 h2 h3
    · exact h3 r n2 v H3 fp p3 tb (fun b o z => bs b o (sub b o z)) pt (Tpk.trans (Tpk.trans tpA a1.fr.tup) tp3) im nd fun b hb => ⟨(hf b hb).1, fun o z => (hf b hb).2 o (sub b o z)⟩
/-- a pot is made: what is drawn is drawn from it -/
def NoPot : List Sl → Prop
  | [] => True
  | .pot :: _ => False
  | _ :: ss => NoPot ss
theorem NoPot.get : ∀ {ρ : List Sl}, NoPot ρ → ∀ i : Nat, ρ[i]? = some Sl.pot → False
  | [], _, i, e => by cases e
  | s :: ss, h, 0, e => by
    obtain rfl : s = Sl.pot := Option.some.inj e
    exact h
  | s :: ss, h, i + 1, e => by
    have : NoPot ss := by cases s <;> first | exact h | exact h.elim
    exact NoPot.get this i e
theorem ST.unpot {Bs : Addr → HO → Prop} {po : Option Addr} {ρ : List Sl} {φ : Nat → List Addr} {σ : L2.St} {H : Hp} {n n2 : Nat} (h : ST K T Bs po ρ φ σ H n) (hp : NoPot ρ) : ST K T Bs none ρ φ σ H n2 where
  tabs := h.tabs
  base := fun b o z => ⟨(h.base b o z).1, (h.base b o z).2.1, by simp⟩
  pot := fun a e => nomatch e
  len := h.len
  sl := fun i s e => by
    have z := h.sl i s e
    cases s with
    | any => trivial
    | pot => exact (hp.get i e).elim
    | scr ns => exact z
    | lkd d => obtain ⟨a, od, u, z1, z2, z3⟩ := z; exact ⟨a, od, u, z1, by simp, z3⟩
    | bor d => obtain ⟨v, z1, z2, z3⟩ := z; exact ⟨v, z1, z2, fun b hb => ⟨by simp, (z3 b hb).2⟩⟩
    | own d => obtain ⟨v, z1, z2, z3, z4⟩ := z; exact ⟨v, z1, z2, z3, fun b hb => ⟨by simp, (z4 b hb).2⟩⟩
  dis := h.dis
def potW {R B S : Type} (c : Prop) (m : M (Ctl R B S)) : M (Ctl R B S) := fun n P => c ∧ m 0 fun x _ => P x n
theorem rb_newpot {te : TE} {tu : TS} {i : Nat} {c : Prop} {m : M (Ctl R B S)} {ρ2 : List Sl} (he : ∀ (Bs : Addr → HO → Prop) (φ : Nat → List Addr) (σ : L2.St) (H : Hp) (n : Nat), ST K T Bs none ρ φ σ H n → c → ∀ Q : VK, (∀ a H', Same H H' → H a = none → Pot H' a 0 → Q (.ref a) H') → te σ H Q)
    (hi : i < ρ.length) (h0 : NoPot ρ) (e : ρ.set i .pot = ρ2) (hu : RB K T (fun _ => True) tu ρ2 m ρn ρb) (hn : ∀ s, NoPot (ρn s)) (hb : ∀ s, NoPot (ρb s)) : RB K T (fun po => po = none) (tSeq (tAsg te (gName i)) tu) ρ (potW c m) ρn ρb :=
  fun Bs po hC σ H n ⟨φ, st⟩ P p D h1 h2 h3 => by
    subst hC
    refine he Bs φ σ H n st p.1 _ fun a H' s na pt => ?_
    have st1 := st.af (Af.same s (n := n))
    have fa : Fsh H a := fun o e => by rw [na] at e; cases e
    have st2 : ST K T Bs (some a) ρ2 φ (σ.set i (some (.ref a))) H' 0 := by
      subst e
      refine ⟨st1.tabs, fun b o z => ⟨(st1.base b o z).1, (st1.base b o z).2.1, fun w => st.fresh_bs fa o (by rw [Option.some.inj w]; exact z)⟩, fun b w => by rw [← Option.some.inj w]; exact pt, by rw [List.length_set, List.length_set, st1.len], fun j x ej => ?_, fun j k d1 d2 hjk ej ek => ?_⟩
      · rw [List.getElem?_set] at ej ⊢
        by_cases hij : i = j
        · subst hij
          rw [if_pos rfl, if_pos hi] at ej
          obtain rfl := Option.some.inj ej
          rw [if_pos rfl, if_pos (by rw [st1.len]; exact hi)]
          exact ⟨a, rfl, rfl⟩
        · rw [if_neg hij] at ej ⊢
          have z := st1.sl j x ej
          cases x with
          | any => trivial
          | pot => exact (h0.get j ej).elim
          | scr ns => exact z
          | lkd d =>
            obtain ⟨b, od, u, z1, z2, z3, z4⟩ := z
            have hne : (some a : Option Addr) ≠ some b := fun w => by
              obtain ⟨x, y, z, hH, _⟩ := pt
              rw [Option.some.inj w, z3] at hH
              cases hH
            exact ⟨b, od, u, z1, hne, z3, z4⟩
          | bor d =>
            obtain ⟨v, z1, z2, z3⟩ := z
            exact ⟨v, z1, z2, fun b hb => ⟨fun w => by obtain ⟨o, q⟩ := (z3 b hb).2; exact st.fresh_bs fa o (by rw [Option.some.inj w]; exact q), (z3 b hb).2⟩⟩
          | own d =>
            obtain ⟨v, z1, z2, z3, z4⟩ := z
            exact ⟨v, z1, z2, z3, fun b hb => ⟨fun w => st.fresh_own fa ej (by rw [Option.some.inj w]; exact hb), (z4 b hb).2⟩⟩
      · rw [List.getElem?_set] at ej ek
        by_cases hij : i = j
        · rw [if_pos hij] at ej; split at ej <;> cases ej
        · rw [if_neg hij] at ej
          by_cases hik : i = k
          · rw [if_pos hik] at ek; split at ek <;> cases ek
          · rw [if_neg hik] at ek
            exact st1.dis j k d1 d2 hjk ej ek
    have tp : Tpk K H H' := fun _ _ z => s _ _ z
    refine hu Bs (some a) trivial _ H' 0 ⟨φ, st2⟩ _ p.2 D (fun s' n' σ' H'' Bs' p' sb ⟨φ', st'⟩ tp' => ?_) (fun s' n' σ' H'' Bs' p' sb ⟨φ', st'⟩ tp' => ?_) fun r n' v H'' fp p' tb bs pt' tp' im nd hf => ?_
    · exact h1 s' n σ' H'' Bs' p' sb ⟨φ', st'.unpot (hn s')⟩ (Tpk.trans tp tp')
    · exact h2 s' n σ' H'' Bs' p' sb ⟨φ', st'.unpot (hb s')⟩ (Tpk.trans tp tp')
    · exact h3 r n v H'' fp p' tb bs (fun a z => nomatch z) (Tpk.trans tp tp') im nd fun b hb => ⟨by simp, (hf b hb).2⟩
theorem re_lenS {i : Nat} {ns : List Int} (hi : ρ[i]? = some (.scr ns)) : RE K T (tCB (fun xs H Q => ∃ p ys, xs = [.ref p] ∧ (SqL K H p ys ∨ SqT K H p ys) ∧ Q (.int ys.length) H) (tCons (tVar i) tNil)) ρ true (retW ns.length) := fun Bs po φ σ H n st P p Q q => by
  obtain ⟨a, h1, h2⟩ := st.sl i _ hi
  have hS : SqL K H a (ns.map V.int) := by
    rcases h2 with ⟨o, z1, z2⟩ | z
    · have := (st.base a o z1).1
      rcases z2 with rfl | ⟨w, rfl⟩
      · exact .inl (.inl this)
      · exact .inl (.inr ⟨w, this⟩)
    · exact .inr z
  exact ⟨_, h1, a, _, rfl, .inl hS, q _ n _ H [] p Af.refl (by rw [List.length_map]; exact .int _) Fp.nil⟩
theorem scr_sql {Bs : Addr → HO → Prop} {po : Option Addr} {ρ : List Sl} {φ : Nat → List Addr} {σ : L2.St} {H : Hp} {n i : Nat} {ns : List Int} (st : ST K T Bs po ρ φ σ H n) (hi : ρ[i]? = some (.scr ns)) : ∃ a, σ[i]? = some (some (.ref a)) ∧ SqL K H a (ns.map V.int) := by
  obtain ⟨a, h1, h2⟩ := st.sl i _ hi
  refine ⟨a, h1, ?_⟩
  rcases h2 with ⟨o, z1, z2⟩ | z
  · have := (st.base a o z1).1
    rcases z2 with rfl | ⟨w, rfl⟩
    · exact .inl (.inl this)
    · exact .inl (.inr ⟨w, this⟩)
  · exact .inr z
/-! ### a def from its start on -/
def outW {R B S : Type} (m : M (Ctl R B S)) : M R := fun n P => m n fun c n' => match c with
  | .ret r => P r n'
  | _ => False
def PSl (K : PySem.W.Frag) {α : Type} [Enc α] (s : α → Sl) : Prop := ∀ (Bs : Addr → HO → Prop) (po : Option Addr) (H : Hp) (a : α) (v : V) (fp : List Addr), Im K H v (enc a) fp → (∀ b ∈ fp, po ≠ some b ∧ ∃ o, Bs b o) → SlOk K Bs po H (some (some v)) (s a) fp ∧ ∀ d, s a = .own d → fp = []
theorem psl_own [Pu α] : PSl K (fun a : α => .own (enc a)) := fun Bs po H a v fp im h => by
  have z := Pu.pu im
  subst z
  exact ⟨⟨v, rfl, im, List.nodup_nil, fun b hb => absurd hb List.not_mem_nil⟩, fun _ _ => rfl⟩
theorem psl_bor : PSl K (fun a : α => .bor (enc a)) := fun Bs po H a v fp im h => ⟨⟨v, rfl, im, h⟩, fun d e => nomatch e⟩
theorem st_start {Bs : Addr → HO → Prop} {po : Option Addr} {H : Hp} {n : Nat} {N : List Str} {ss : List Sl} {vs : List V} {fps : List (List Addr)} {ρ : List Sl} (tb : Tabs T H) (hb : ∀ b o, Bs b o → H b = some o ∧ (∀ ps, o ≠ .tbl ps) ∧ po ≠ some b) (hp : ∀ a, po = some a → Pot H a n)
    (hl : vs.length = ss.length) (hs : ∀ i s, ss[i]? = some s → SlOk K Bs po H (vs[i]?.map some) s (fps.getD i [])) (ho : ∀ i d, ss[i]? = some (.own d) → fps.getD i [] = []) (e : ss ++ List.replicate (N.length - ss.length) Sl.any = ρ) : ST K T Bs po ρ (fun i => fps.getD i []) (L2.start N vs) H n := by
  subst e
  have get : ∀ i s, (ss ++ List.replicate (N.length - ss.length) Sl.any)[i]? = some s → ss[i]? = some s ∨ s = Sl.any := fun i s h => by
    by_cases hi : i < ss.length
    · rw [List.getElem?_append_left hi] at h
      exact .inl h
    · rw [List.getElem?_append_right (by omega)] at h
      exact .inr (List.eq_of_mem_replicate (List.mem_of_getElem? h))
  refine ⟨tb, hb, hp, ?_, fun i s h => ?_, fun i j d e hij ei ej => ?_⟩
  · unfold L2.start
    rw [List.length_append, List.length_append, List.length_map, List.length_replicate, List.length_replicate, hl]
  · rcases get i s h with h | rfl
    · have hi := (List.getElem?_eq_some_iff.mp h).1
      have e : (L2.start N vs)[i]? = vs[i]?.map some := by
        unfold L2.start
        rw [List.getElem?_append_left (by rw [List.length_map, hl]; exact hi), List.getElem?_map]
      rw [e]
      exact hs i s h
    · trivial
  · rcases get i _ ei with h | h
    · rw [ho i d h]
      exact fun b hb => absurd hb List.not_mem_nil
    · cases h
/-- what a def tells at its end, nothing drawn -/
theorem end_pure {t : TS} {ρ : List Sl} {mB : M (Ctl R B S)} {H : Hp} {σ : L2.St} {Q : VK} {D : Ends} {P0 : R → Nat → Prop} (hr : RB K T C t ρ mB ρn ρb) (hC : C none) (hD : D.rt = Q)
    (st : STe K T (fun b o => H b = some o ∧ ∀ ps, o ≠ .tbl ps) none ρ σ H 0) (h : outW mB 0 P0) (hq : ∀ r c v' H' fp, P0 r c → Af K T none H 0 H' 0 → Im K H' v' (enc r) fp → fp.Nodup → (∀ b ∈ fp, Fsh H b) → Q v' H') : t D σ H := by
  refine hr _ none hC σ H 0 st _ h D (fun s n' σ' H' Bs' p => p.elim) (fun s n' σ' H' Bs' p => p.elim) fun r n' v H' fp p tb bs pt tp im nd hf => ?_
  rw [hD]
  refine hq r n' v H' fp p ⟨⟨fun b o _ e t => bs b o ⟨e, t⟩, tp⟩, fun _ => tb, fun a z => nomatch z⟩ im nd fun b hb o e => ?_
  by_cases z : ∃ ps, o = .tbl ps
  · exact z
  · exact ((hf b hb).2 o ⟨e, fun ps q => z ⟨ps, q⟩⟩).elim
theorem end_pot {t : TS} {ρ : List Sl} {mB : M (Ctl R B S)} {H : Hp} {σ : L2.St} {Q : VK} {D : Ends} {q : Addr} {n : Nat} {P0 : R → Nat → Prop} (hr : RB K T C t ρ mB ρn ρb) (hC : C (some q)) (hD : D.rt = Q)
    (st : STe K T (fun b o => H b = some o ∧ (∀ ps, o ≠ .tbl ps) ∧ b ≠ q) (some q) ρ σ H n) (h : outW mB n P0) (hq : ∀ r n' v' H' fp, P0 r n' → Af K T (some q) H n H' n' → Im K H' v' (enc r) fp → fp.Nodup → (∀ b ∈ fp, b ≠ q ∧ Fsh H b) → Q v' H') : t D σ H := by
  refine hr _ (some q) hC σ H n st _ h D (fun s n' σ' H' Bs' p => p.elim) (fun s n' σ' H' Bs' p => p.elim) fun r n' v H' fp p tb bs pt tp im nd hf => ?_
  rw [hD]
  refine hq r n' v H' fp p ⟨⟨fun b o hb e t => bs b o ⟨e, t, fun z => hb (by rw [z])⟩, tp⟩, fun _ => tb, fun a z _ => pt a z⟩ im nd fun b hb => ⟨fun w => (hf b hb).1 (by rw [w]), fun o e => ?_⟩
  by_cases z : ∃ ps, o = .tbl ps
  · exact z
  · exact ((hf b hb).2 o ⟨e, fun ps q => z ⟨ps, q⟩, fun w => (hf b hb).1 (by rw [w])⟩).elim
end
end Bf
namespace Bf
open PySem PySem.Spec PyProof.Rows L2 LamX NdefX
section
variable {K : PySem.W.Frag} {T : List (Addr × Str)} {ρ : List Sl}
theorem lists_bs {H : Hp} {v : V} {d : PyData} {fp : List Addr} (h : Im K H v d fp) : ∀ b ∈ fp, (none : Option Addr) ≠ some b ∧ ∃ o, H b = some o ∧ ∀ ps, o ≠ .tbl ps := fun b hb => by
  obtain ⟨l, hl, hm⟩ := Im.mtb _ _ _ h b hb
  exact ⟨by simp, _, hl, hm.tbl⟩
theorem lists_bp {H : Hp} {v : V} {d : PyData} {fp : List Addr} {q : Addr} (h : Im K H v d fp) (hq : ∀ b ∈ fp, b ≠ q) : ∀ b ∈ fp, some q ≠ some b ∧ ∃ o, H b = some o ∧ (∀ ps, o ≠ .tbl ps) ∧ b ≠ q := fun b hb => by
  obtain ⟨l, hl, hm⟩ := Im.mtb _ _ _ h b hb
  exact ⟨fun e => hq b hb (Option.some.inj e).symm, _, hl, hm.tbl, hq b hb⟩
theorem keep_pot {H H' : Hp} {n : Nat} {a : Addr} {c c' : Nat} (af : Af K T none H c H' c') (z : Pot H a n) : Pot H' a n := by
  obtain ⟨x, y, w, e, h⟩ := z
  exact ⟨x, y, w, af.fr.keep a _ (by simp) e (fun ps q => nomatch q), h⟩
def c1W {α1 R : Type} (m1 : M α1) (g : α1 → M R) : M R := fun n P => m1 n fun a1 n1 => g a1 n1 P
def c2W {α1 α2 R : Type} (m1 : M α1) (m2 : M α2) (g : α1 → α2 → M R) : M R := fun n P => m1 n fun a1 n1 => m2 n1 fun a2 n2 => g a1 a2 n2 P
def c3W {α1 α2 α3 R : Type} (m1 : M α1) (m2 : M α2) (m3 : M α3) (g : α1 → α2 → α3 → M R) : M R := fun n P => m1 n fun a1 n1 => m2 n1 fun a2 n2 => m3 n2 fun a3 n3 => g a1 a2 a3 n3 P
def c4W {α1 α2 α3 α4 R : Type} (m1 : M α1) (m2 : M α2) (m3 : M α3) (m4 : M α4) (g : α1 → α2 → α3 → α4 → M R) : M R := fun n P => m1 n fun a1 n1 => m2 n1 fun a2 n2 => m3 n2 fun a3 n3 => m4 n3 fun a4 n4 => g a1 a2 a3 a4 n4 P
def c5W {α1 α2 α3 α4 α5 R : Type} (m1 : M α1) (m2 : M α2) (m3 : M α3) (m4 : M α4) (m5 : M α5) (g : α1 → α2 → α3 → α4 → α5 → M R) : M R := fun n P => m1 n fun a1 n1 => m2 n1 fun a2 n2 => m3 n2 fun a3 n3 => m4 n3 fun a4 n4 => m5 n4 fun a5 n5 => g a1 a2 a3 a4 a5 n5 P
def c6W {α1 α2 α3 α4 α5 α6 R : Type} (m1 : M α1) (m2 : M α2) (m3 : M α3) (m4 : M α4) (m5 : M α5) (m6 : M α6) (g : α1 → α2 → α3 → α4 → α5 → α6 → M R) : M R := fun n P => m1 n fun a1 n1 => m2 n1 fun a2 n2 => m3 n2 fun a3 n3 => m4 n3 fun a4 n4 => m5 n4 fun a5 n5 => m6 n5 fun a6 n6 => g a1 a2 a3 a4 a5 a6 n6 P
def c7W {α1 α2 α3 α4 α5 α6 α7 R : Type} (m1 : M α1) (m2 : M α2) (m3 : M α3) (m4 : M α4) (m5 : M α5) (m6 : M α6) (m7 : M α7) (g : α1 → α2 → α3 → α4 → α5 → α6 → α7 → M R) : M R := fun n P => m1 n fun a1 n1 => m2 n1 fun a2 n2 => m3 n2 fun a3 n3 => m4 n3 fun a4 n4 => m5 n4 fun a5 n5 => m6 n5 fun a6 n6 => m7 n6 fun a7 n7 => g a1 a2 a3 a4 a5 a6 a7 n7 P
def c8W {α1 α2 α3 α4 α5 α6 α7 α8 R : Type} (m1 : M α1) (m2 : M α2) (m3 : M α3) (m4 : M α4) (m5 : M α5) (m6 : M α6) (m7 : M α7) (m8 : M α8) (g : α1 → α2 → α3 → α4 → α5 → α6 → α7 → α8 → M R) : M R := fun n P => m1 n fun a1 n1 => m2 n1 fun a2 n2 => m3 n2 fun a3 n3 => m4 n3 fun a4 n4 => m5 n4 fun a5 n5 => m6 n5 fun a6 n6 => m7 n6 fun a7 n7 => m8 n7 fun a8 n8 => g a1 a2 a3 a4 a5 a6 a7 a8 n8 P
def spW0 (K : PySem.W.Frag) (T : List (Addr × Str)) {R : Type}  [Enc R] (f : M R) : Sp := fun vs H Q _ => vs = [] ∧ (True) ∧ Tabs T H ∧ ∃ P0 : R → Nat → Prop, f  0 P0 ∧ ∀ r c v' H' fp, P0 r c → Af K T none H 0 H' 0 → Im K H' v' (enc r) fp → fp.Nodup → (∀ b ∈ fp, Fsh H b) → Q v' H'
theorem spW0_len {R : Type}  [Enc R] {f : M R} {vs : List V} {H : Hp} {Q : VK} {E : XK} (h : spW0 K T f vs H Q E) : vs.length = 0 := by
  obtain ⟨rfl, _⟩ := h
  rfl
theorem w0_run {R : Type}  [Enc R] {B S : Type} {N : List Str}  {ρ : List Sl} (e : [] ++ List.replicate (N.length - 0) Sl.any = ρ ) {t : TS} {mB : M (Ctl R B S)} {ρn : S → List Sl} {ρb : B → List Sl} {C : Option Addr → Prop} (hC : C none) (hr : RB K T C t (ρ ) (mB ) ρn ρb)
    {vs : List V} {H : Hp} {Q : VK} {E : XK} (h : spW0 K T (outW (mB )) vs H Q E) : t { nx := fun _ H' => Q .non H', rt := Q } (L2.start N vs) H := by
  obtain ⟨rfl, _, tb, P0, h, hq⟩ := h
  refine end_pure (hr ) hC rfl ⟨_, st_start (ss := []) (fps := []) tb (fun b o z => ⟨z.1, z.2, by simp⟩) (fun a z => nomatch z) rfl (fun i s hi => ?_) (fun i d hi => ?_) (e )⟩ h hq
  · match i, hi with
    | i + 0, hi => cases hi
  · match i, hi with
    | i + 0, hi => cases hi
theorem re_call0 {R : Type}  [Enc R] {f : M R} {E : XK}  : RE K T (tCall (spW0 K T f) [] E tNil) ρ true (pureW f) := fun Bs po φ σ H n st P p Q q =>
  ⟨rfl, trivial, st.tabs, _, p, fun r c v' H' fp pr af im nd hf => q r n v' H' fp pr (⟨Fr.weak af.fr, af.tabs, fun a e z => keep_pot af z⟩) im (⟨fun b hb => st.fresh_pot (hf b hb), fun _ => ⟨nd, hf⟩⟩)⟩
def spP0 (K : PySem.W.Frag) (T : List (Addr × Str)) {R : Type}  [Enc R] (f : M R) : Sp := fun vs H Q _ => ∃ (q : Addr) (n : Nat)  , vs = [.ref q] ∧ (True) ∧ Tabs T H ∧ Pot H q n ∧ ∃ P0 : R → Nat → Prop, f  n P0 ∧ ∀ r n' v' H' fp, P0 r n' → Af K T (some q) H n H' n' → Im K H' v' (enc r) fp → fp.Nodup → (∀ b ∈ fp, b ≠ q ∧ Fsh H b) → Q v' H'
theorem spP0_len {R : Type}  [Enc R] {f : M R} {vs : List V} {H : Hp} {Q : VK} {E : XK} (h : spP0 K T f vs H Q E) : vs.length = 1 := by
  obtain ⟨q, n, rfl, _⟩ := h
  rfl
theorem p0_run {R : Type}  [Enc R] {B S : Type} {N : List Str}  {ρ : List Sl} (e : [Sl.pot] ++ List.replicate (N.length - 1) Sl.any = ρ ) {t : TS} {mB : M (Ctl R B S)} {ρn : S → List Sl} {ρb : B → List Sl} {C : Option Addr → Prop} (hC : ∀ q, C (some q)) (hr : RB K T C t (ρ ) (mB ) ρn ρb)
    {vs : List V} {H : Hp} {Q : VK} {E : XK} (h : spP0 K T (outW (mB )) vs H Q E) : t { nx := fun _ H' => Q .non H', rt := Q } (L2.start N vs) H := by
  obtain ⟨q, n, rfl, _, tb, pp, P0, h, hq⟩ := h
  refine end_pot (hr ) (hC q) rfl ⟨_, st_start (ss := [Sl.pot]) (fps := [[]]) tb (fun b o z => ⟨z.1, z.2.1, fun w => z.2.2 (Option.some.inj w).symm⟩) (fun a z => by rw [← Option.some.inj z]; exact pp) rfl (fun i s hi => ?_) (fun i d hi => ?_) (e )⟩ h hq
  · match i, hi with
    | 0, hi =>
      obtain rfl := Option.some.inj hi
      exact ⟨q, rfl, rfl⟩
    | i + 1, hi => cases hi
  · match i, hi with
    | 0, hi => cases hi
    | i + 1, hi => cases hi
theorem re_callp0 {R : Type}  [Enc R] {f : M R} {E : XK} {ip : Nat} (hpot : ρ[ip]? = some .pot)  : RE K T (tCall (spP0 K T f) [] E (tCons (tVar ip) tNil)) ρ true f := fun Bs po φ σ H n st P p Q q =>
  let ⟨u, e1, e2⟩ := st.sl ip _ hpot
  ⟨_, e2,
  ⟨u, n, rfl, trivial, st.tabs, st.pot u e1, _, p, fun r c v' H' fp pr af im nd hf => q r c v' H' fp pr ((by rw [e1]; exact af)) im (⟨fun b hb => by rw [e1]; exact fun z => (hf b hb).1 (Option.some.inj z).symm, fun _ => ⟨nd, fun b hb => (hf b hb).2⟩⟩)⟩⟩
def spW1 (K : PySem.W.Frag) (T : List (Addr × Str)) {α1 R : Type} [Enc α1] [Enc R] (f : α1 → M R) : Sp := fun vs H Q _ => ∃ (a1 : α1) (v1 : V) (f1 : List Addr), vs = [v1] ∧ (Im K H v1 (enc a1) f1) ∧ Tabs T H ∧ ∃ P0 : R → Nat → Prop, f a1 0 P0 ∧ ∀ r c v' H' fp, P0 r c → Af K T none H 0 H' 0 → Im K H' v' (enc r) fp → fp.Nodup → (∀ b ∈ fp, Fsh H b) → Q v' H'
theorem spW1_len {α1 R : Type} [Enc α1] [Enc R] {f : α1 → M R} {vs : List V} {H : Hp} {Q : VK} {E : XK} (h : spW1 K T f vs H Q E) : vs.length = 1 := by
  obtain ⟨a1, v1, f1, rfl, _⟩ := h
  rfl
theorem w1_run {α1 R : Type} [Enc α1] [Enc R] {B S : Type} {N : List Str} {s1 : α1 → Sl} (p1 : PSl K s1) {ρ : α1 → List Sl} (e : ∀ a1, [s1 a1] ++ List.replicate (N.length - 1) Sl.any = ρ a1) {t : TS} {mB : α1 → M (Ctl R B S)} {ρn : S → List Sl} {ρb : B → List Sl} {C : Option Addr → Prop} (hC : C none) (hr : ∀ a1, RB K T C t (ρ a1) (mB a1) ρn ρb)
    {vs : List V} {H : Hp} {Q : VK} {E : XK} (h : spW1 K T (fun a1 => outW (mB a1)) vs H Q E) : t { nx := fun _ H' => Q .non H', rt := Q } (L2.start N vs) H := by
  obtain ⟨a1, v1, f1, rfl, i1, tb, P0, h, hq⟩ := h
  refine end_pure (hr a1) hC rfl ⟨_, st_start (ss := [s1 a1]) (fps := [f1]) tb (fun b o z => ⟨z.1, z.2, by simp⟩) (fun a z => nomatch z) rfl (fun i s hi => ?_) (fun i d hi => ?_) (e a1)⟩ h hq
  · match i, hi with
    | 0, hi =>
      obtain rfl := Option.some.inj hi
      exact (p1 _ _ _ _ _ _ i1 (lists_bs i1)).1
    | i + 1, hi => cases hi
  · match i, hi with
    | 0, hi => exact (p1 (fun b o => H b = some o ∧ ∀ ps, o ≠ .tbl ps) none H _ _ _ i1 (lists_bs i1)).2 _ (Option.some.inj hi)
    | i + 1, hi => cases hi
theorem re_call1 {α1 R : Type} [Enc α1] [Enc R] {f : α1 → M R} {E : XK} {t1 : TE} {m1 : M α1} {b1 : Bool} (h1 : RE K T t1 ρ b1 m1) : RE K T (tCall (spW1 K T f) [] E (tCons t1 tNil)) ρ true (c1W m1 fun a1 => pureW (f a1)) := fun Bs po φ σ H n st P p Q q =>
  h1 Bs po φ σ H n st _ p _ fun a1 n1 v1 H1 f1 p1 x1 i1 g1 =>
  ⟨_, _, _, rfl, i1, (st.af x1).tabs, _, p1, fun r c v' H' fp pr af im nd hf => q r n1 v' H' fp pr (Af.trans x1 ⟨Fr.weak af.fr, af.tabs, fun a e z => keep_pot af z⟩) im (Fp.back x1.fr ⟨fun b hb => (st.af x1).fresh_pot (hf b hb), fun _ => ⟨nd, hf⟩⟩)⟩
def spP1 (K : PySem.W.Frag) (T : List (Addr × Str)) {α1 R : Type} [Enc α1] [Enc R] (f : α1 → M R) : Sp := fun vs H Q _ => ∃ (q : Addr) (n : Nat) (a1 : α1) (v1 : V) (f1 : List Addr), vs = [.ref q, v1] ∧ (Im K H v1 (enc a1) f1 ∧ (∀ b ∈ f1, b ≠ q)) ∧ Tabs T H ∧ Pot H q n ∧ ∃ P0 : R → Nat → Prop, f a1 n P0 ∧ ∀ r n' v' H' fp, P0 r n' → Af K T (some q) H n H' n' → Im K H' v' (enc r) fp → fp.Nodup → (∀ b ∈ fp, b ≠ q ∧ Fsh H b) → Q v' H'
theorem spP1_len {α1 R : Type} [Enc α1] [Enc R] {f : α1 → M R} {vs : List V} {H : Hp} {Q : VK} {E : XK} (h : spP1 K T f vs H Q E) : vs.length = 2 := by
  obtain ⟨q, n, a1, v1, f1, rfl, _⟩ := h
  rfl
theorem p1_run {α1 R : Type} [Enc α1] [Enc R] {B S : Type} {N : List Str} {s1 : α1 → Sl} (p1 : PSl K s1) {ρ : α1 → List Sl} (e : ∀ a1, [Sl.pot, s1 a1] ++ List.replicate (N.length - 2) Sl.any = ρ a1) {t : TS} {mB : α1 → M (Ctl R B S)} {ρn : S → List Sl} {ρb : B → List Sl} {C : Option Addr → Prop} (hC : ∀ q, C (some q)) (hr : ∀ a1, RB K T C t (ρ a1) (mB a1) ρn ρb)
    {vs : List V} {H : Hp} {Q : VK} {E : XK} (h : spP1 K T (fun a1 => outW (mB a1)) vs H Q E) : t { nx := fun _ H' => Q .non H', rt := Q } (L2.start N vs) H := by
  obtain ⟨q, n, a1, v1, f1, rfl, ⟨i1, j1⟩, tb, pp, P0, h, hq⟩ := h
  refine end_pot (hr a1) (hC q) rfl ⟨_, st_start (ss := [Sl.pot, s1 a1]) (fps := [[], f1]) tb (fun b o z => ⟨z.1, z.2.1, fun w => z.2.2 (Option.some.inj w).symm⟩) (fun a z => by rw [← Option.some.inj z]; exact pp) rfl (fun i s hi => ?_) (fun i d hi => ?_) (e a1)⟩ h hq
  · match i, hi with
    | 0, hi =>
      obtain rfl := Option.some.inj hi
      exact ⟨q, rfl, rfl⟩
    | 1, hi =>
      obtain rfl := Option.some.inj hi
      exact (p1 _ _ _ _ _ _ i1 (lists_bp i1 j1)).1
    | i + 2, hi => cases hi
  · match i, hi with
    | 0, hi => cases hi
    | 1, hi => exact (p1 (fun b o => H b = some o ∧ (∀ ps, o ≠ .tbl ps) ∧ b ≠ q) (some q) H _ _ _ i1 (lists_bp i1 j1)).2 _ (Option.some.inj hi)
    | i + 2, hi => cases hi
theorem re_callp1 {α1 R : Type} [Enc α1] [Enc R] {f : α1 → M R} {E : XK} {ip : Nat} (hpot : ρ[ip]? = some .pot) {t1 : TE} {m1 : M α1} {b1 : Bool} (h1 : RE K T t1 ρ b1 m1) : RE K T (tCall (spP1 K T f) [] E (tCons (tVar ip) (tCons t1 tNil))) ρ true (c1W m1 f) := fun Bs po φ σ H n st P p Q q =>
  let ⟨u, e1, e2⟩ := st.sl ip _ hpot
  ⟨_, e2,
  h1 Bs po φ σ H n st _ p _ fun a1 n1 v1 H1 f1 p1 x1 i1 g1 =>
  ⟨u, n1, _, _, _, rfl, ⟨i1, fun b hb z => g1.1 b hb (by rw [z]; exact e1)⟩, (st.af x1).tabs, (st.af x1).pot u e1, _, p1, fun r c v' H' fp pr af im nd hf => q r c v' H' fp pr (Af.trans x1 (by rw [e1]; exact af)) im (Fp.back x1.fr ⟨fun b hb => by rw [e1]; exact fun z => (hf b hb).1 (Option.some.inj z).symm, fun _ => ⟨nd, fun b hb => (hf b hb).2⟩⟩)⟩⟩
def spW2 (K : PySem.W.Frag) (T : List (Addr × Str)) {α1 α2 R : Type} [Enc α1] [Enc α2] [Enc R] (f : α1 → α2 → M R) : Sp := fun vs H Q _ => ∃ (a1 : α1) (a2 : α2) (v1 v2 : V) (f1 f2 : List Addr), vs = [v1, v2] ∧ (Im K H v1 (enc a1) f1 ∧ Im K H v2 (enc a2) f2) ∧ Tabs T H ∧ ∃ P0 : R → Nat → Prop, f a1 a2 0 P0 ∧ ∀ r c v' H' fp, P0 r c → Af K T none H 0 H' 0 → Im K H' v' (enc r) fp → fp.Nodup → (∀ b ∈ fp, Fsh H b) → Q v' H'
theorem spW2_len {α1 α2 R : Type} [Enc α1] [Enc α2] [Enc R] {f : α1 → α2 → M R} {vs : List V} {H : Hp} {Q : VK} {E : XK} (h : spW2 K T f vs H Q E) : vs.length = 2 := by
  obtain ⟨a1, a2, v1, v2, f1, f2, rfl, _⟩ := h
  rfl
theorem w2_run {α1 α2 R : Type} [Enc α1] [Enc α2] [Enc R] {B S : Type} {N : List Str} {s1 : α1 → Sl} (p1 : PSl K s1) {s2 : α2 → Sl} (p2 : PSl K s2) {ρ : α1 → α2 → List Sl} (e : ∀ a1 a2, [s1 a1, s2 a2] ++ List.replicate (N.length - 2) Sl.any = ρ a1 a2) {t : TS} {mB : α1 → α2 → M (Ctl R B S)} {ρn : S → List Sl} {ρb : B → List Sl} {C : Option Addr → Prop} (hC : C none) (hr : ∀ a1 a2, RB K T C t (ρ a1 a2) (mB a1 a2) ρn ρb)
    {vs : List V} {H : Hp} {Q : VK} {E : XK} (h : spW2 K T (fun a1 a2 => outW (mB a1 a2)) vs H Q E) : t { nx := fun _ H' => Q .non H', rt := Q } (L2.start N vs) H := by
  obtain ⟨a1, a2, v1, v2, f1, f2, rfl, ⟨i1, i2⟩, tb, P0, h, hq⟩ := h
  refine end_pure (hr a1 a2) hC rfl ⟨_, st_start (ss := [s1 a1, s2 a2]) (fps := [f1, f2]) tb (fun b o z => ⟨z.1, z.2, by simp⟩) (fun a z => nomatch z) rfl (fun i s hi => ?_) (fun i d hi => ?_) (e a1 a2)⟩ h hq
  · match i, hi with
    | 0, hi =>
      obtain rfl := Option.some.inj hi
      exact (p1 _ _ _ _ _ _ i1 (lists_bs i1)).1
    | 1, hi =>
      obtain rfl := Option.some.inj hi
      exact (p2 _ _ _ _ _ _ i2 (lists_bs i2)).1
    | i + 2, hi => cases hi
  · match i, hi with
    | 0, hi => exact (p1 (fun b o => H b = some o ∧ ∀ ps, o ≠ .tbl ps) none H _ _ _ i1 (lists_bs i1)).2 _ (Option.some.inj hi)
    | 1, hi => exact (p2 (fun b o => H b = some o ∧ ∀ ps, o ≠ .tbl ps) none H _ _ _ i2 (lists_bs i2)).2 _ (Option.some.inj hi)
    | i + 2, hi => cases hi
theorem re_call2 {α1 α2 R : Type} [Enc α1] [Enc α2] [Enc R] {f : α1 → α2 → M R} {E : XK} {t1 : TE} {m1 : M α1} {b1 : Bool} (h1 : RE K T t1 ρ b1 m1) {t2 : TE} {m2 : M α2} {b2 : Bool} (h2 : RE K T t2 ρ b2 m2) : RE K T (tCall (spW2 K T f) [] E (tCons t1 (tCons t2 tNil))) ρ true (c2W m1 m2 fun a1 a2 => pureW (f a1 a2)) := fun Bs po φ σ H n st P p Q q =>
  h1 Bs po φ σ H n st _ p _ fun a1 n1 v1 H1 f1 p1 x1 i1 g1 =>
  h2 Bs po φ σ H1 n1 (st.af x1) _ p1 _ fun a2 n2 v2 H2 f2 p2 x2 i2 g2 =>
  ⟨_, _, _, _, _, _, rfl, ⟨(i1.af g1.1 x2.fr), i2⟩, ((st.af x1).af x2).tabs, _, p2, fun r c v' H' fp pr af im nd hf => q r n2 v' H' fp pr (Af.trans (Af.trans x1 x2) ⟨Fr.weak af.fr, af.tabs, fun a e z => keep_pot af z⟩) im (Fp.back (Af.trans x1 x2).fr ⟨fun b hb => ((st.af x1).af x2).fresh_pot (hf b hb), fun _ => ⟨nd, hf⟩⟩)⟩
def spP2 (K : PySem.W.Frag) (T : List (Addr × Str)) {α1 α2 R : Type} [Enc α1] [Enc α2] [Enc R] (f : α1 → α2 → M R) : Sp := fun vs H Q _ => ∃ (q : Addr) (n : Nat) (a1 : α1) (a2 : α2) (v1 v2 : V) (f1 f2 : List Addr), vs = [.ref q, v1, v2] ∧ (Im K H v1 (enc a1) f1 ∧ Im K H v2 (enc a2) f2 ∧ (∀ b ∈ f1, b ≠ q) ∧ (∀ b ∈ f2, b ≠ q)) ∧ Tabs T H ∧ Pot H q n ∧ ∃ P0 : R → Nat → Prop, f a1 a2 n P0 ∧ ∀ r n' v' H' fp, P0 r n' → Af K T (some q) H n H' n' → Im K H' v' (enc r) fp → fp.Nodup → (∀ b ∈ fp, b ≠ q ∧ Fsh H b) → Q v' H'
theorem spP2_len {α1 α2 R : Type} [Enc α1] [Enc α2] [Enc R] {f : α1 → α2 → M R} {vs : List V} {H : Hp} {Q : VK} {E : XK} (h : spP2 K T f vs H Q E) : vs.length = 3 := by
  obtain ⟨q, n, a1, a2, v1, v2, f1, f2, rfl, _⟩ := h
  rfl
theorem p2_run {α1 α2 R : Type} [Enc α1] [Enc α2] [Enc R] {B S : Type} {N : List Str} {s1 : α1 → Sl} (p1 : PSl K s1) {s2 : α2 → Sl} (p2 : PSl K s2) {ρ : α1 → α2 → List Sl} (e : ∀ a1 a2, [Sl.pot, s1 a1, s2 a2] ++ List.replicate (N.length - 3) Sl.any = ρ a1 a2) {t : TS} {mB : α1 → α2 → M (Ctl R B S)} {ρn : S → List Sl} {ρb : B → List Sl} {C : Option Addr → Prop} (hC : ∀ q, C (some q)) (hr : ∀ a1 a2, RB K T C t (ρ a1 a2) (mB a1 a2) ρn ρb)
    {vs : List V} {H : Hp} {Q : VK} {E : XK} (h : spP2 K T (fun a1 a2 => outW (mB a1 a2)) vs H Q E) : t { nx := fun _ H' => Q .non H', rt := Q } (L2.start N vs) H := by
  obtain ⟨q, n, a1, a2, v1, v2, f1, f2, rfl, ⟨i1, i2, j1, j2⟩, tb, pp, P0, h, hq⟩ := h
  refine end_pot (hr a1 a2) (hC q) rfl ⟨_, st_start (ss := [Sl.pot, s1 a1, s2 a2]) (fps := [[], f1, f2]) tb (fun b o z => ⟨z.1, z.2.1, fun w => z.2.2 (Option.some.inj w).symm⟩) (fun a z => by rw [← Option.some.inj z]; exact pp) rfl (fun i s hi => ?_) (fun i d hi => ?_) (e a1 a2)⟩ h hq
  · match i, hi with
    | 0, hi =>
      obtain rfl := Option.some.inj hi
      exact ⟨q, rfl, rfl⟩
    | 1, hi =>
      obtain rfl := Option.some.inj hi
      exact (p1 _ _ _ _ _ _ i1 (lists_bp i1 j1)).1
    | 2, hi =>
      obtain rfl := Option.some.inj hi
      exact (p2 _ _ _ _ _ _ i2 (lists_bp i2 j2)).1
    | i + 3, hi => cases hi
  · match i, hi with
    | 0, hi => cases hi
    | 1, hi => exact (p1 (fun b o => H b = some o ∧ (∀ ps, o ≠ .tbl ps) ∧ b ≠ q) (some q) H _ _ _ i1 (lists_bp i1 j1)).2 _ (Option.some.inj hi)
    | 2, hi => exact (p2 (fun b o => H b = some o ∧ (∀ ps, o ≠ .tbl ps) ∧ b ≠ q) (some q) H _ _ _ i2 (lists_bp i2 j2)).2 _ (Option.some.inj hi)
    | i + 3, hi => cases hi
theorem re_callp2 {α1 α2 R : Type} [Enc α1] [Enc α2] [Enc R] {f : α1 → α2 → M R} {E : XK} {ip : Nat} (hpot : ρ[ip]? = some .pot) {t1 : TE} {m1 : M α1} {b1 : Bool} (h1 : RE K T t1 ρ b1 m1) {t2 : TE} {m2 : M α2} {b2 : Bool} (h2 : RE K T t2 ρ b2 m2) : RE K T (tCall (spP2 K T f) [] E (tCons (tVar ip) (tCons t1 (tCons t2 tNil)))) ρ true (c2W m1 m2 f) := fun Bs po φ σ H n st P p Q q =>
  let ⟨u, e1, e2⟩ := st.sl ip _ hpot
  ⟨_, e2,
  h1 Bs po φ σ H n st _ p _ fun a1 n1 v1 H1 f1 p1 x1 i1 g1 =>
  h2 Bs po φ σ H1 n1 (st.af x1) _ p1 _ fun a2 n2 v2 H2 f2 p2 x2 i2 g2 =>
  ⟨u, n2, _, _, _, _, _, _, rfl, ⟨(i1.af g1.1 x2.fr), i2, fun b hb z => g1.1 b hb (by rw [z]; exact e1), fun b hb z => g2.1 b hb (by rw [z]; exact e1)⟩, ((st.af x1).af x2).tabs, ((st.af x1).af x2).pot u e1, _, p2, fun r c v' H' fp pr af im nd hf => q r c v' H' fp pr (Af.trans (Af.trans x1 x2) (by rw [e1]; exact af)) im (Fp.back (Af.trans x1 x2).fr ⟨fun b hb => by rw [e1]; exact fun z => (hf b hb).1 (Option.some.inj z).symm, fun _ => ⟨nd, fun b hb => (hf b hb).2⟩⟩)⟩⟩
def spW3 (K : PySem.W.Frag) (T : List (Addr × Str)) {α1 α2 α3 R : Type} [Enc α1] [Enc α2] [Enc α3] [Enc R] (f : α1 → α2 → α3 → M R) : Sp := fun vs H Q _ => ∃ (a1 : α1) (a2 : α2) (a3 : α3) (v1 v2 v3 : V) (f1 f2 f3 : List Addr), vs = [v1, v2, v3] ∧ (Im K H v1 (enc a1) f1 ∧ Im K H v2 (enc a2) f2 ∧ Im K H v3 (enc a3) f3) ∧ Tabs T H ∧ ∃ P0 : R → Nat → Prop, f a1 a2 a3 0 P0 ∧ ∀ r c v' H' fp, P0 r c → Af K T none H 0 H' 0 → Im K H' v' (enc r) fp → fp.Nodup → (∀ b ∈ fp, Fsh H b) → Q v' H'
theorem spW3_len {α1 α2 α3 R : Type} [Enc α1] [Enc α2] [Enc α3] [Enc R] {f : α1 → α2 → α3 → M R} {vs : List V} {H : Hp} {Q : VK} {E : XK} (h : spW3 K T f vs H Q E) : vs.length = 3 := by
  obtain ⟨a1, a2, a3, v1, v2, v3, f1, f2, f3, rfl, _⟩ := h
  rfl
theorem w3_run {α1 α2 α3 R : Type} [Enc α1] [Enc α2] [Enc α3] [Enc R] {B S : Type} {N : List Str} {s1 : α1 → Sl} (p1 : PSl K s1) {s2 : α2 → Sl} (p2 : PSl K s2) {s3 : α3 → Sl} (p3 : PSl K s3) {ρ : α1 → α2 → α3 → List Sl} (e : ∀ a1 a2 a3, [s1 a1, s2 a2, s3 a3] ++ List.replicate (N.length - 3) Sl.any = ρ a1 a2 a3) {t : TS} {mB : α1 → α2 → α3 → M (Ctl R B S)} {ρn : S → List Sl} {ρb : B → List Sl} {C : Option Addr → Prop} (hC : C none) (hr : ∀ a1 a2 a3, RB K T C t (ρ a1 a2 a3) (mB a1 a2 a3) ρn ρb)
    {vs : List V} {H : Hp} {Q : VK} {E : XK} (h : spW3 K T (fun a1 a2 a3 => outW (mB a1 a2 a3)) vs H Q E) : t { nx := fun _ H' => Q .non H', rt := Q } (L2.start N vs) H := by
  obtain ⟨a1, a2, a3, v1, v2, v3, f1, f2, f3, rfl, ⟨i1, i2, i3⟩, tb, P0, h, hq⟩ := h
  refine end_pure (hr a1 a2 a3) hC rfl ⟨_, st_start (ss := [s1 a1, s2 a2, s3 a3]) (fps := [f1, f2, f3]) tb (fun b o z => ⟨z.1, z.2, by simp⟩) (fun a z => nomatch z) rfl (fun i s hi => ?_) (fun i d hi => ?_) (e a1 a2 a3)⟩ h hq
  · match i, hi with
    | 0, hi =>
      obtain rfl := Option.some.inj hi
      exact (p1 _ _ _ _ _ _ i1 (lists_bs i1)).1
    | 1, hi =>
      obtain rfl := Option.some.inj hi
      exact (p2 _ _ _ _ _ _ i2 (lists_bs i2)).1
    | 2, hi =>
      obtain rfl := Option.some.inj hi
      exact (p3 _ _ _ _ _ _ i3 (lists_bs i3)).1
    | i + 3, hi => cases hi
  · match i, hi with
    | 0, hi => exact (p1 (fun b o => H b = some o ∧ ∀ ps, o ≠ .tbl ps) none H _ _ _ i1 (lists_bs i1)).2 _ (Option.some.inj hi)
    | 1, hi => exact (p2 (fun b o => H b = some o ∧ ∀ ps, o ≠ .tbl ps) none H _ _ _ i2 (lists_bs i2)).2 _ (Option.some.inj hi)
    | 2, hi => exact (p3 (fun b o => H b = some o ∧ ∀ ps, o ≠ .tbl ps) none H _ _ _ i3 (lists_bs i3)).2 _ (Option.some.inj hi)
    | i + 3, hi => cases hi
theorem re_call3 {α1 α2 α3 R : Type} [Enc α1] [Enc α2] [Enc α3] [Enc R] {f : α1 → α2 → α3 → M R} {E : XK} {t1 : TE} {m1 : M α1} {b1 : Bool} (h1 : RE K T t1 ρ b1 m1) {t2 : TE} {m2 : M α2} {b2 : Bool} (h2 : RE K T t2 ρ b2 m2) {t3 : TE} {m3 : M α3} {b3 : Bool} (h3 : RE K T t3 ρ b3 m3) : RE K T (tCall (spW3 K T f) [] E (tCons t1 (tCons t2 (tCons t3 tNil)))) ρ true (c3W m1 m2 m3 fun a1 a2 a3 => pureW (f a1 a2 a3)) := fun Bs po φ σ H n st P p Q q =>
  h1 Bs po φ σ H n st _ p _ fun a1 n1 v1 H1 f1 p1 x1 i1 g1 =>
  h2 Bs po φ σ H1 n1 (st.af x1) _ p1 _ fun a2 n2 v2 H2 f2 p2 x2 i2 g2 =>
  h3 Bs po φ σ H2 n2 ((st.af x1).af x2) _ p2 _ fun a3 n3 v3 H3 f3 p3 x3 i3 g3 =>
  ⟨_, _, _, _, _, _, _, _, _, rfl, ⟨((i1.af g1.1 x2.fr).af g1.1 x3.fr), (i2.af g2.1 x3.fr), i3⟩, (((st.af x1).af x2).af x3).tabs, _, p3, fun r c v' H' fp pr af im nd hf => q r n3 v' H' fp pr (Af.trans (Af.trans (Af.trans x1 x2) x3) ⟨Fr.weak af.fr, af.tabs, fun a e z => keep_pot af z⟩) im (Fp.back (Af.trans (Af.trans x1 x2) x3).fr ⟨fun b hb => (((st.af x1).af x2).af x3).fresh_pot (hf b hb), fun _ => ⟨nd, hf⟩⟩)⟩
def spP3 (K : PySem.W.Frag) (T : List (Addr × Str)) {α1 α2 α3 R : Type} [Enc α1] [Enc α2] [Enc α3] [Enc R] (f : α1 → α2 → α3 → M R) : Sp := fun vs H Q _ => ∃ (q : Addr) (n : Nat) (a1 : α1) (a2 : α2) (a3 : α3) (v1 v2 v3 : V) (f1 f2 f3 : List Addr), vs = [.ref q, v1, v2, v3] ∧ (Im K H v1 (enc a1) f1 ∧ Im K H v2 (enc a2) f2 ∧ Im K H v3 (enc a3) f3 ∧ (∀ b ∈ f1, b ≠ q) ∧ (∀ b ∈ f2, b ≠ q) ∧ (∀ b ∈ f3, b ≠ q)) ∧ Tabs T H ∧ Pot H q n ∧ ∃ P0 : R → Nat → Prop, f a1 a2 a3 n P0 ∧ ∀ r n' v' H' fp, P0 r n' → Af K T (some q) H n H' n' → Im K H' v' (enc r) fp → fp.Nodup → (∀ b ∈ fp, b ≠ q ∧ Fsh H b) → Q v' H'
theorem spP3_len {α1 α2 α3 R : Type} [Enc α1] [Enc α2] [Enc α3] [Enc R] {f : α1 → α2 → α3 → M R} {vs : List V} {H : Hp} {Q : VK} {E : XK} (h : spP3 K T f vs H Q E) : vs.length = 4 := by
  obtain ⟨q, n, a1, a2, a3, v1, v2, v3, f1, f2, f3, rfl, _⟩ := h
  rfl
theorem p3_run {α1 α2 α3 R : Type} [Enc α1] [Enc α2] [Enc α3] [Enc R] {B S : Type} {N : List Str} {s1 : α1 → Sl} (p1 : PSl K s1) {s2 : α2 → Sl} (p2 : PSl K s2) {s3 : α3 → Sl} (p3 : PSl K s3) {ρ : α1 → α2 → α3 → List Sl} (e : ∀ a1 a2 a3, [Sl.pot, s1 a1, s2 a2, s3 a3] ++ List.replicate (N.length - 4) Sl.any = ρ a1 a2 a3) {t : TS} {mB : α1 → α2 → α3 → M (Ctl R B S)} {ρn : S → List Sl} {ρb : B → List Sl} {C : Option Addr → Prop} (hC : ∀ q, C (some q)) (hr : ∀ a1 a2 a3, RB K T C t (ρ a1 a2 a3) (mB a1 a2 a3) ρn ρb)
    {vs : List V} {H : Hp} {Q : VK} {E : XK} (h : spP3 K T (fun a1 a2 a3 => outW (mB a1 a2 a3)) vs H Q E) : t { nx := fun _ H' => Q .non H', rt := Q } (L2.start N vs) H := by
  obtain ⟨q, n, a1, a2, a3, v1, v2, v3, f1, f2, f3, rfl, ⟨i1, i2, i3, j1, j2, j3⟩, tb, pp, P0, h, hq⟩ := h
  refine end_pot (hr a1 a2 a3) (hC q) rfl ⟨_, st_start (ss := [Sl.pot, s1 a1, s2 a2, s3 a3]) (fps := [[], f1, f2, f3]) tb (fun b o z => ⟨z.1, z.2.1, fun w => z.2.2 (Option.some.inj w).symm⟩) (fun a z => by rw [← Option.some.inj z]; exact pp) rfl (fun i s hi => ?_) (fun i d hi => ?_) (e a1 a2 a3)⟩ h hq
  · match i, hi with
    | 0, hi =>
      obtain rfl := Option.some.inj hi
      exact ⟨q, rfl, rfl⟩
    | 1, hi =>
      obtain rfl := Option.some.inj hi
      exact (p1 _ _ _ _ _ _ i1 (lists_bp i1 j1)).1
    | 2, hi =>
      obtain rfl := Option.some.inj hi
      exact (p2 _ _ _ _ _ _ i2 (lists_bp i2 j2)).1
    | 3, hi =>
      obtain rfl := Option.some.inj hi
      exact (p3 _ _ _ _ _ _ i3 (lists_bp i3 j3)).1
    | i + 4, hi => cases hi
  · match i, hi with
    | 0, hi => cases hi
    | 1, hi => exact (p1 (fun b o => H b = some o ∧ (∀ ps, o ≠ .tbl ps) ∧ b ≠ q) (some q) H _ _ _ i1 (lists_bp i1 j1)).2 _ (Option.some.inj hi)
    | 2, hi => exact (p2 (fun b o => H b = some o ∧ (∀ ps, o ≠ .tbl ps) ∧ b ≠ q) (some q) H _ _ _ i2 (lists_bp i2 j2)).2 _ (Option.some.inj hi)
    | 3, hi => exact (p3 (fun b o => H b = some o ∧ (∀ ps, o ≠ .tbl ps) ∧ b ≠ q) (some q) H _ _ _ i3 (lists_bp i3 j3)).2 _ (Option.some.inj hi)
    | i + 4, hi => cases hi
theorem re_callp3 {α1 α2 α3 R : Type} [Enc α1] [Enc α2] [Enc α3] [Enc R] {f : α1 → α2 → α3 → M R} {E : XK} {ip : Nat} (hpot : ρ[ip]? = some .pot) {t1 : TE} {m1 : M α1} {b1 : Bool} (h1 : RE K T t1 ρ b1 m1) {t2 : TE} {m2 : M α2} {b2 : Bool} (h2 : RE K T t2 ρ b2 m2) {t3 : TE} {m3 : M α3} {b3 : Bool} (h3 : RE K T t3 ρ b3 m3) : RE K T (tCall (spP3 K T f) [] E (tCons (tVar ip) (tCons t1 (tCons t2 (tCons t3 tNil))))) ρ true (c3W m1 m2 m3 f) := fun Bs po φ σ H n st P p Q q =>
  let ⟨u, e1, e2⟩ := st.sl ip _ hpot
  ⟨_, e2,
  h1 Bs po φ σ H n st _ p _ fun a1 n1 v1 H1 f1 p1 x1 i1 g1 =>
  h2 Bs po φ σ H1 n1 (st.af x1) _ p1 _ fun a2 n2 v2 H2 f2 p2 x2 i2 g2 =>
  h3 Bs po φ σ H2 n2 ((st.af x1).af x2) _ p2 _ fun a3 n3 v3 H3 f3 p3 x3 i3 g3 =>
  ⟨u, n3, _, _, _, _, _, _, _, _, _, rfl, ⟨((i1.af g1.1 x2.fr).af g1.1 x3.fr), (i2.af g2.1 x3.fr), i3, fun b hb z => g1.1 b hb (by rw [z]; exact e1), fun b hb z => g2.1 b hb (by rw [z]; exact e1), fun b hb z => g3.1 b hb (by rw [z]; exact e1)⟩, (((st.af x1).af x2).af x3).tabs, (((st.af x1).af x2).af x3).pot u e1, _, p3, fun r c v' H' fp pr af im nd hf => q r c v' H' fp pr (Af.trans (Af.trans (Af.trans x1 x2) x3) (by rw [e1]; exact af)) im (Fp.back (Af.trans (Af.trans x1 x2) x3).fr ⟨fun b hb => by rw [e1]; exact fun z => (hf b hb).1 (Option.some.inj z).symm, fun _ => ⟨nd, fun b hb => (hf b hb).2⟩⟩)⟩⟩
def spW4 (K : PySem.W.Frag) (T : List (Addr × Str)) {α1 α2 α3 α4 R : Type} [Enc α1] [Enc α2] [Enc α3] [Enc α4] [Enc R] (f : α1 → α2 → α3 → α4 → M R) : Sp := fun vs H Q _ => ∃ (a1 : α1) (a2 : α2) (a3 : α3) (a4 : α4) (v1 v2 v3 v4 : V) (f1 f2 f3 f4 : List Addr), vs = [v1, v2, v3, v4] ∧ (Im K H v1 (enc a1) f1 ∧ Im K H v2 (enc a2) f2 ∧ Im K H v3 (enc a3) f3 ∧ Im K H v4 (enc a4) f4) ∧ Tabs T H ∧ ∃ P0 : R → Nat → Prop, f a1 a2 a3 a4 0 P0 ∧ ∀ r c v' H' fp, P0 r c → Af K T none H 0 H' 0 → Im K H' v' (enc r) fp → fp.Nodup → (∀ b ∈ fp, Fsh H b) → Q v' H'
theorem spW4_len {α1 α2 α3 α4 R : Type} [Enc α1] [Enc α2] [Enc α3] [Enc α4] [Enc R] {f : α1 → α2 → α3 → α4 → M R} {vs : List V} {H : Hp} {Q : VK} {E : XK} (h : spW4 K T f vs H Q E) : vs.length = 4 := by
  obtain ⟨a1, a2, a3, a4, v1, v2, v3, v4, f1, f2, f3, f4, rfl, _⟩ := h
  rfl
theorem w4_run {α1 α2 α3 α4 R : Type} [Enc α1] [Enc α2] [Enc α3] [Enc α4] [Enc R] {B S : Type} {N : List Str} {s1 : α1 → Sl} (p1 : PSl K s1) {s2 : α2 → Sl} (p2 : PSl K s2) {s3 : α3 → Sl} (p3 : PSl K s3) {s4 : α4 → Sl} (p4 : PSl K s4) {ρ : α1 → α2 → α3 → α4 → List Sl} (e : ∀ a1 a2 a3 a4, [s1 a1, s2 a2, s3 a3, s4 a4] ++ List.replicate (N.length - 4) Sl.any = ρ a1 a2 a3 a4) {t : TS} {mB : α1 → α2 → α3 → α4 → M (Ctl R B S)} {ρn : S → List Sl} {ρb : B → List Sl} {C : Option Addr → Prop} (hC : C none) (hr : ∀ a1 a2 a3 a4, RB K T C t (ρ a1 a2 a3 a4) (mB a1 a2 a3 a4) ρn ρb)
    {vs : List V} {H : Hp} {Q : VK} {E : XK} (h : spW4 K T (fun a1 a2 a3 a4 => outW (mB a1 a2 a3 a4)) vs H Q E) : t { nx := fun _ H' => Q .non H', rt := Q } (L2.start N vs) H := by
  obtain ⟨a1, a2, a3, a4, v1, v2, v3, v4, f1, f2, f3, f4, rfl, ⟨i1, i2, i3, i4⟩, tb, P0, h, hq⟩ := h
  refine end_pure (hr a1 a2 a3 a4) hC rfl ⟨_, st_start (ss := [s1 a1, s2 a2, s3 a3, s4 a4]) (fps := [f1, f2, f3, f4]) tb (fun b o z => ⟨z.1, z.2, by simp⟩) (fun a z => nomatch z) rfl (fun i s hi => ?_) (fun i d hi => ?_) (e a1 a2 a3 a4)⟩ h hq
  · match i, hi with
    | 0, hi =>
      obtain rfl := Option.some.inj hi
      exact (p1 _ _ _ _ _ _ i1 (lists_bs i1)).1
    | 1, hi =>
      obtain rfl := Option.some.inj hi
      exact (p2 _ _ _ _ _ _ i2 (lists_bs i2)).1
    | 2, hi =>
      obtain rfl := Option.some.inj hi
      exact (p3 _ _ _ _ _ _ i3 (lists_bs i3)).1
    | 3, hi =>
      obtain rfl := Option.some.inj hi
      exact (p4 _ _ _ _ _ _ i4 (lists_bs i4)).1
    | i + 4, hi => cases hi
  · match i, hi with
    | 0, hi => exact (p1 (fun b o => H b = some o ∧ ∀ ps, o ≠ .tbl ps) none H _ _ _ i1 (lists_bs i1)).2 _ (Option.some.inj hi)
    | 1, hi => exact (p2 (fun b o => H b = some o ∧ ∀ ps, o ≠ .tbl ps) none H _ _ _ i2 (lists_bs i2)).2 _ (Option.some.inj hi)
    | 2, hi => exact (p3 (fun b o => H b = some o ∧ ∀ ps, o ≠ .tbl ps) none H _ _ _ i3 (lists_bs i3)).2 _ (Option.some.inj hi)
    | 3, hi => exact (p4 (fun b o => H b = some o ∧ ∀ ps, o ≠ .tbl ps) none H _ _ _ i4 (lists_bs i4)).2 _ (Option.some.inj hi)
    | i + 4, hi => cases hi
theorem re_call4 {α1 α2 α3 α4 R : Type} [Enc α1] [Enc α2] [Enc α3] [Enc α4] [Enc R] {f : α1 → α2 → α3 → α4 → M R} {E : XK} {t1 : TE} {m1 : M α1} {b1 : Bool} (h1 : RE K T t1 ρ b1 m1) {t2 : TE} {m2 : M α2} {b2 : Bool} (h2 : RE K T t2 ρ b2 m2) {t3 : TE} {m3 : M α3} {b3 : Bool} (h3 : RE K T t3 ρ b3 m3) {t4 : TE} {m4 : M α4} {b4 : Bool} (h4 : RE K T t4 ρ b4 m4) : RE K T (tCall (spW4 K T f) [] E (tCons t1 (tCons t2 (tCons t3 (tCons t4 tNil))))) ρ true (c4W m1 m2 m3 m4 fun a1 a2 a3 a4 => pureW (f a1 a2 a3 a4)) := fun Bs po φ σ H n st P p Q q =>
  h1 Bs po φ σ H n st _ p _ fun a1 n1 v1 H1 f1 p1 x1 i1 g1 =>
  h2 Bs po φ σ H1 n1 (st.af x1) _ p1 _ fun a2 n2 v2 H2 f2 p2 x2 i2 g2 =>
  h3 Bs po φ σ H2 n2 ((st.af x1).af x2) _ p2 _ fun a3 n3 v3 H3 f3 p3 x3 i3 g3 =>
  h4 Bs po φ σ H3 n3 (((st.af x1).af x2).af x3) _ p3 _ fun a4 n4 v4 H4 f4 p4 x4 i4 g4 =>
  ⟨_, _, _, _, _, _, _, _, _, _, _, _, rfl, ⟨(((i1.af g1.1 x2.fr).af g1.1 x3.fr).af g1.1 x4.fr), ((i2.af g2.1 x3.fr).af g2.1 x4.fr), (i3.af g3.1 x4.fr), i4⟩, ((((st.af x1).af x2).af x3).af x4).tabs, _, p4, fun r c v' H' fp pr af im nd hf => q r n4 v' H' fp pr (Af.trans (Af.trans (Af.trans (Af.trans x1 x2) x3) x4) ⟨Fr.weak af.fr, af.tabs, fun a e z => keep_pot af z⟩) im (Fp.back (Af.trans (Af.trans (Af.trans x1 x2) x3) x4).fr ⟨fun b hb => ((((st.af x1).af x2).af x3).af x4).fresh_pot (hf b hb), fun _ => ⟨nd, hf⟩⟩)⟩
def spP4 (K : PySem.W.Frag) (T : List (Addr × Str)) {α1 α2 α3 α4 R : Type} [Enc α1] [Enc α2] [Enc α3] [Enc α4] [Enc R] (f : α1 → α2 → α3 → α4 → M R) : Sp := fun vs H Q _ => ∃ (q : Addr) (n : Nat) (a1 : α1) (a2 : α2) (a3 : α3) (a4 : α4) (v1 v2 v3 v4 : V) (f1 f2 f3 f4 : List Addr), vs = [.ref q, v1, v2, v3, v4] ∧ (Im K H v1 (enc a1) f1 ∧ Im K H v2 (enc a2) f2 ∧ Im K H v3 (enc a3) f3 ∧ Im K H v4 (enc a4) f4 ∧ (∀ b ∈ f1, b ≠ q) ∧ (∀ b ∈ f2, b ≠ q) ∧ (∀ b ∈ f3, b ≠ q) ∧ (∀ b ∈ f4, b ≠ q)) ∧ Tabs T H ∧ Pot H q n ∧ ∃ P0 : R → Nat → Prop, f a1 a2 a3 a4 n P0 ∧ ∀ r n' v' H' fp, P0 r n' → Af K T (some q) H n H' n' → Im K H' v' (enc r) fp → fp.Nodup → (∀ b ∈ fp, b ≠ q ∧ Fsh H b) → Q v' H'
theorem spP4_len {α1 α2 α3 α4 R : Type} [Enc α1] [Enc α2] [Enc α3] [Enc α4] [Enc R] {f : α1 → α2 → α3 → α4 → M R} {vs : List V} {H : Hp} {Q : VK} {E : XK} (h : spP4 K T f vs H Q E) : vs.length = 5 := by
  obtain ⟨q, n, a1, a2, a3, a4, v1, v2, v3, v4, f1, f2, f3, f4, rfl, _⟩ := h
  rfl
theorem p4_run {α1 α2 α3 α4 R : Type} [Enc α1] [Enc α2] [Enc α3] [Enc α4] [Enc R] {B S : Type} {N : List Str} {s1 : α1 → Sl} (p1 : PSl K s1) {s2 : α2 → Sl} (p2 : PSl K s2) {s3 : α3 → Sl} (p3 : PSl K s3) {s4 : α4 → Sl} (p4 : PSl K s4) {ρ : α1 → α2 → α3 → α4 → List Sl} (e : ∀ a1 a2 a3 a4, [Sl.pot, s1 a1, s2 a2, s3 a3, s4 a4] ++ List.replicate (N.length - 5) Sl.any = ρ a1 a2 a3 a4) {t : TS} {mB : α1 → α2 → α3 → α4 → M (Ctl R B S)} {ρn : S → List Sl} {ρb : B → List Sl} {C : Option Addr → Prop} (hC : ∀ q, C (some q)) (hr : ∀ a1 a2 a3 a4, RB K T C t (ρ a1 a2 a3 a4) (mB a1 a2 a3 a4) ρn ρb)
    {vs : List V} {H : Hp} {Q : VK} {E : XK} (h : spP4 K T (fun a1 a2 a3 a4 => outW (mB a1 a2 a3 a4)) vs H Q E) : t { nx := fun _ H' => Q .non H', rt := Q } (L2.start N vs) H := by
  obtain ⟨q, n, a1, a2, a3, a4, v1, v2, v3, v4, f1, f2, f3, f4, rfl, ⟨i1, i2, i3, i4, j1, j2, j3, j4⟩, tb, pp, P0, h, hq⟩ := h
  refine end_pot (hr a1 a2 a3 a4) (hC q) rfl ⟨_, st_start (ss := [Sl.pot, s1 a1, s2 a2, s3 a3, s4 a4]) (fps := [[], f1, f2, f3, f4]) tb (fun b o z => ⟨z.1, z.2.1, fun w => z.2.2 (Option.some.inj w).symm⟩) (fun a z => by rw [← Option.some.inj z]; exact pp) rfl (fun i s hi => ?_) (fun i d hi => ?_) (e a1 a2 a3 a4)⟩ h hq
  · match i, hi with
    | 0, hi =>
      obtain rfl := Option.some.inj hi
      exact ⟨q, rfl, rfl⟩
    | 1, hi =>
      obtain rfl := Option.some.inj hi
      exact (p1 _ _ _ _ _ _ i1 (lists_bp i1 j1)).1
    | 2, hi =>
      obtain rfl := Option.some.inj hi
      exact (p2 _ _ _ _ _ _ i2 (lists_bp i2 j2)).1
    | 3, hi =>
      obtain rfl := Option.some.inj hi
      exact (p3 _ _ _ _ _ _ i3 (lists_bp i3 j3)).1
    | 4, hi =>
      obtain rfl := Option.some.inj hi
      exact (p4 _ _ _ _ _ _ i4 (lists_bp i4 j4)).1
    | i + 5, hi => cases hi
  · match i, hi with
    | 0, hi => cases hi
    | 1, hi => exact (p1 (fun b o => H b = some o ∧ (∀ ps, o ≠ .tbl ps) ∧ b ≠ q) (some q) H _ _ _ i1 (lists_bp i1 j1)).2 _ (Option.some.inj hi)
    | 2, hi => exact (p2 (fun b o => H b = some o ∧ (∀ ps, o ≠ .tbl ps) ∧ b ≠ q) (some q) H _ _ _ i2 (lists_bp i2 j2)).2 _ (Option.some.inj hi)
    | 3, hi => exact (p3 (fun b o => H b = some o ∧ (∀ ps, o ≠ .tbl ps) ∧ b ≠ q) (some q) H _ _ _ i3 (lists_bp i3 j3)).2 _ (Option.some.inj hi)
    | 4, hi => exact (p4 (fun b o => H b = some o ∧ (∀ ps, o ≠ .tbl ps) ∧ b ≠ q) (some q) H _ _ _ i4 (lists_bp i4 j4)).2 _ (Option.some.inj hi)
    | i + 5, hi => cases hi
theorem re_callp4 {α1 α2 α3 α4 R : Type} [Enc α1] [Enc α2] [Enc α3] [Enc α4] [Enc R] {f : α1 → α2 → α3 → α4 → M R} {E : XK} {ip : Nat} (hpot : ρ[ip]? = some .pot) {t1 : TE} {m1 : M α1} {b1 : Bool} (h1 : RE K T t1 ρ b1 m1) {t2 : TE} {m2 : M α2} {b2 : Bool} (h2 : RE K T t2 ρ b2 m2) {t3 : TE} {m3 : M α3} {b3 : Bool} (h3 : RE K T t3 ρ b3 m3) {t4 : TE} {m4 : M α4} {b4 : Bool} (h4 : RE K T t4 ρ b4 m4) : RE K T (tCall (spP4 K T f) [] E (tCons (tVar ip) (tCons t1 (tCons t2 (tCons t3 (tCons t4 tNil)))))) ρ true (c4W m1 m2 m3 m4 f) := fun Bs po φ σ H n st P p Q q =>
  let ⟨u, e1, e2⟩ := st.sl ip _ hpot
  ⟨_, e2,
  h1 Bs po φ σ H n st _ p _ fun a1 n1 v1 H1 f1 p1 x1 i1 g1 =>
  h2 Bs po φ σ H1 n1 (st.af x1) _ p1 _ fun a2 n2 v2 H2 f2 p2 x2 i2 g2 =>
  h3 Bs po φ σ H2 n2 ((st.af x1).af x2) _ p2 _ fun a3 n3 v3 H3 f3 p3 x3 i3 g3 =>
  h4 Bs po φ σ H3 n3 (((st.af x1).af x2).af x3) _ p3 _ fun a4 n4 v4 H4 f4 p4 x4 i4 g4 =>
  ⟨u, n4, _, _, _, _, _, _, _, _, _, _, _, _, rfl, ⟨(((i1.af g1.1 x2.fr).af g1.1 x3.fr).af g1.1 x4.fr), ((i2.af g2.1 x3.fr).af g2.1 x4.fr), (i3.af g3.1 x4.fr), i4, fun b hb z => g1.1 b hb (by rw [z]; exact e1), fun b hb z => g2.1 b hb (by rw [z]; exact e1), fun b hb z => g3.1 b hb (by rw [z]; exact e1), fun b hb z => g4.1 b hb (by rw [z]; exact e1)⟩, ((((st.af x1).af x2).af x3).af x4).tabs, ((((st.af x1).af x2).af x3).af x4).pot u e1, _, p4, fun r c v' H' fp pr af im nd hf => q r c v' H' fp pr (Af.trans (Af.trans (Af.trans (Af.trans x1 x2) x3) x4) (by rw [e1]; exact af)) im (Fp.back (Af.trans (Af.trans (Af.trans x1 x2) x3) x4).fr ⟨fun b hb => by rw [e1]; exact fun z => (hf b hb).1 (Option.some.inj z).symm, fun _ => ⟨nd, fun b hb => (hf b hb).2⟩⟩)⟩⟩
def spW5 (K : PySem.W.Frag) (T : List (Addr × Str)) {α1 α2 α3 α4 α5 R : Type} [Enc α1] [Enc α2] [Enc α3] [Enc α4] [Enc α5] [Enc R] (f : α1 → α2 → α3 → α4 → α5 → M R) : Sp := fun vs H Q _ => ∃ (a1 : α1) (a2 : α2) (a3 : α3) (a4 : α4) (a5 : α5) (v1 v2 v3 v4 v5 : V) (f1 f2 f3 f4 f5 : List Addr), vs = [v1, v2, v3, v4, v5] ∧ (Im K H v1 (enc a1) f1 ∧ Im K H v2 (enc a2) f2 ∧ Im K H v3 (enc a3) f3 ∧ Im K H v4 (enc a4) f4 ∧ Im K H v5 (enc a5) f5) ∧ Tabs T H ∧ ∃ P0 : R → Nat → Prop, f a1 a2 a3 a4 a5 0 P0 ∧ ∀ r c v' H' fp, P0 r c → Af K T none H 0 H' 0 → Im K H' v' (enc r) fp → fp.Nodup → (∀ b ∈ fp, Fsh H b) → Q v' H'
theorem spW5_len {α1 α2 α3 α4 α5 R : Type} [Enc α1] [Enc α2] [Enc α3] [Enc α4] [Enc α5] [Enc R] {f : α1 → α2 → α3 → α4 → α5 → M R} {vs : List V} {H : Hp} {Q : VK} {E : XK} (h : spW5 K T f vs H Q E) : vs.length = 5 := by
  obtain ⟨a1, a2, a3, a4, a5, v1, v2, v3, v4, v5, f1, f2, f3, f4, f5, rfl, _⟩ := h
  rfl
theorem w5_run {α1 α2 α3 α4 α5 R : Type} [Enc α1] [Enc α2] [Enc α3] [Enc α4] [Enc α5] [Enc R] {B S : Type} {N : List Str} {s1 : α1 → Sl} (p1 : PSl K s1) {s2 : α2 → Sl} (p2 : PSl K s2) {s3 : α3 → Sl} (p3 : PSl K s3) {s4 : α4 → Sl} (p4 : PSl K s4) {s5 : α5 → Sl} (p5 : PSl K s5) {ρ : α1 → α2 → α3 → α4 → α5 → List Sl} (e : ∀ a1 a2 a3 a4 a5, [s1 a1, s2 a2, s3 a3, s4 a4, s5 a5] ++ List.replicate (N.length - 5) Sl.any = ρ a1 a2 a3 a4 a5) {t : TS} {mB : α1 → α2 → α3 → α4 → α5 → M (Ctl R B S)} {ρn : S → List Sl} {ρb : B → List Sl} {C : Option Addr → Prop} (hC : C none) (hr : ∀ a1 a2 a3 a4 a5, RB K T C t (ρ a1 a2 a3 a4 a5) (mB a1 a2 a3 a4 a5) ρn ρb)
    {vs : List V} {H : Hp} {Q : VK} {E : XK} (h : spW5 K T (fun a1 a2 a3 a4 a5 => outW (mB a1 a2 a3 a4 a5)) vs H Q E) : t { nx := fun _ H' => Q .non H', rt := Q } (L2.start N vs) H := by
  obtain ⟨a1, a2, a3, a4, a5, v1, v2, v3, v4, v5, f1, f2, f3, f4, f5, rfl, ⟨i1, i2, i3, i4, i5⟩, tb, P0, h, hq⟩ := h
  refine end_pure (hr a1 a2 a3 a4 a5) hC rfl ⟨_, st_start (ss := [s1 a1, s2 a2, s3 a3, s4 a4, s5 a5]) (fps := [f1, f2, f3, f4, f5]) tb (fun b o z => ⟨z.1, z.2, by simp⟩) (fun a z => nomatch z) rfl (fun i s hi => ?_) (fun i d hi => ?_) (e a1 a2 a3 a4 a5)⟩ h hq
  · match i, hi with
    | 0, hi =>
      obtain rfl := Option.some.inj hi
      exact (p1 _ _ _ _ _ _ i1 (lists_bs i1)).1
    | 1, hi =>
      obtain rfl := Option.some.inj hi
      exact (p2 _ _ _ _ _ _ i2 (lists_bs i2)).1
    | 2, hi =>
      obtain rfl := Option.some.inj hi
      exact (p3 _ _ _ _ _ _ i3 (lists_bs i3)).1
    | 3, hi =>
      obtain rfl := Option.some.inj hi
      exact (p4 _ _ _ _ _ _ i4 (lists_bs i4)).1
    | 4, hi =>
      obtain rfl := Option.some.inj hi
      exact (p5 _ _ _ _ _ _ i5 (lists_bs i5)).1
    | i + 5, hi => cases hi
  · match i, hi with
    | 0, hi => exact (p1 (fun b o => H b = some o ∧ ∀ ps, o ≠ .tbl ps) none H _ _ _ i1 (lists_bs i1)).2 _ (Option.some.inj hi)
    | 1, hi => exact (p2 (fun b o => H b = some o ∧ ∀ ps, o ≠ .tbl ps) none H _ _ _ i2 (lists_bs i2)).2 _ (Option.some.inj hi)
    | 2, hi => exact (p3 (fun b o => H b = some o ∧ ∀ ps, o ≠ .tbl ps) none H _ _ _ i3 (lists_bs i3)).2 _ (Option.some.inj hi)
    | 3, hi => exact (p4 (fun b o => H b = some o ∧ ∀ ps, o ≠ .tbl ps) none H _ _ _ i4 (lists_bs i4)).2 _ (Option.some.inj hi)
    | 4, hi => exact (p5 (fun b o => H b = some o ∧ ∀ ps, o ≠ .tbl ps) none H _ _ _ i5 (lists_bs i5)).2 _ (Option.some.inj hi)
    | i + 5, hi => cases hi
theorem re_call5 {α1 α2 α3 α4 α5 R : Type} [Enc α1] [Enc α2] [Enc α3] [Enc α4] [Enc α5] [Enc R] {f : α1 → α2 → α3 → α4 → α5 → M R} {E : XK} {t1 : TE} {m1 : M α1} {b1 : Bool} (h1 : RE K T t1 ρ b1 m1) {t2 : TE} {m2 : M α2} {b2 : Bool} (h2 : RE K T t2 ρ b2 m2) {t3 : TE} {m3 : M α3} {b3 : Bool} (h3 : RE K T t3 ρ b3 m3) {t4 : TE} {m4 : M α4} {b4 : Bool} (h4 : RE K T t4 ρ b4 m4) {t5 : TE} {m5 : M α5} {b5 : Bool} (h5 : RE K T t5 ρ b5 m5) : RE K T (tCall (spW5 K T f) [] E (tCons t1 (tCons t2 (tCons t3 (tCons t4 (tCons t5 tNil)))))) ρ true (c5W m1 m2 m3 m4 m5 fun a1 a2 a3 a4 a5 => pureW (f a1 a2 a3 a4 a5)) := fun Bs po φ σ H n st P p Q q =>
  h1 Bs po φ σ H n st _ p _ fun a1 n1 v1 H1 f1 p1 x1 i1 g1 =>
  h2 Bs po φ σ H1 n1 (st.af x1) _ p1 _ fun a2 n2 v2 H2 f2 p2 x2 i2 g2 =>
  h3 Bs po φ σ H2 n2 ((st.af x1).af x2) _ p2 _ fun a3 n3 v3 H3 f3 p3 x3 i3 g3 =>
  h4 Bs po φ σ H3 n3 (((st.af x1).af x2).af x3) _ p3 _ fun a4 n4 v4 H4 f4 p4 x4 i4 g4 =>
  h5 Bs po φ σ H4 n4 ((((st.af x1).af x2).af x3).af x4) _ p4 _ fun a5 n5 v5 H5 f5 p5 x5 i5 g5 =>
  ⟨_, _, _, _, _, _, _, _, _, _, _, _, _, _, _, rfl, ⟨((((i1.af g1.1 x2.fr).af g1.1 x3.fr).af g1.1 x4.fr).af g1.1 x5.fr), (((i2.af g2.1 x3.fr).af g2.1 x4.fr).af g2.1 x5.fr), ((i3.af g3.1 x4.fr).af g3.1 x5.fr), (i4.af g4.1 x5.fr), i5⟩, (((((st.af x1).af x2).af x3).af x4).af x5).tabs, _, p5, fun r c v' H' fp pr af im nd hf => q r n5 v' H' fp pr (Af.trans (Af.trans (Af.trans (Af.trans (Af.trans x1 x2) x3) x4) x5) ⟨Fr.weak af.fr, af.tabs, fun a e z => keep_pot af z⟩) im (Fp.back (Af.trans (Af.trans (Af.trans (Af.trans x1 x2) x3) x4) x5).fr ⟨fun b hb => (((((st.af x1).af x2).af x3).af x4).af x5).fresh_pot (hf b hb), fun _ => ⟨nd, hf⟩⟩)⟩
def spP5 (K : PySem.W.Frag) (T : List (Addr × Str)) {α1 α2 α3 α4 α5 R : Type} [Enc α1] [Enc α2] [Enc α3] [Enc α4] [Enc α5] [Enc R] (f : α1 → α2 → α3 → α4 → α5 → M R) : Sp := fun vs H Q _ => ∃ (q : Addr) (n : Nat) (a1 : α1) (a2 : α2) (a3 : α3) (a4 : α4) (a5 : α5) (v1 v2 v3 v4 v5 : V) (f1 f2 f3 f4 f5 : List Addr), vs = [.ref q, v1, v2, v3, v4, v5] ∧ (Im K H v1 (enc a1) f1 ∧ Im K H v2 (enc a2) f2 ∧ Im K H v3 (enc a3) f3 ∧ Im K H v4 (enc a4) f4 ∧ Im K H v5 (enc a5) f5 ∧ (∀ b ∈ f1, b ≠ q) ∧ (∀ b ∈ f2, b ≠ q) ∧ (∀ b ∈ f3, b ≠ q) ∧ (∀ b ∈ f4, b ≠ q) ∧ (∀ b ∈ f5, b ≠ q)) ∧ Tabs T H ∧ Pot H q n ∧ ∃ P0 : R → Nat → Prop, f a1 a2 a3 a4 a5 n P0 ∧ ∀ r n' v' H' fp, P0 r n' → Af K T (some q) H n H' n' → Im K H' v' (enc r) fp → fp.Nodup → (∀ b ∈ fp, b ≠ q ∧ Fsh H b) → Q v' H'
theorem spP5_len {α1 α2 α3 α4 α5 R : Type} [Enc α1] [Enc α2] [Enc α3] [Enc α4] [Enc α5] [Enc R] {f : α1 → α2 → α3 → α4 → α5 → M R} {vs : List V} {H : Hp} {Q : VK} {E : XK} (h : spP5 K T f vs H Q E) : vs.length = 6 := by
  obtain ⟨q, n, a1, a2, a3, a4, a5, v1, v2, v3, v4, v5, f1, f2, f3, f4, f5, rfl, _⟩ := h
  rfl
theorem p5_run {α1 α2 α3 α4 α5 R : Type} [Enc α1] [Enc α2] [Enc α3] [Enc α4] [Enc α5] [Enc R] {B S : Type} {N : List Str} {s1 : α1 → Sl} (p1 : PSl K s1) {s2 : α2 → Sl} (p2 : PSl K s2) {s3 : α3 → Sl} (p3 : PSl K s3) {s4 : α4 → Sl} (p4 : PSl K s4) {s5 : α5 → Sl} (p5 : PSl K s5) {ρ : α1 → α2 → α3 → α4 → α5 → List Sl} (e : ∀ a1 a2 a3 a4 a5, [Sl.pot, s1 a1, s2 a2, s3 a3, s4 a4, s5 a5] ++ List.replicate (N.length - 6) Sl.any = ρ a1 a2 a3 a4 a5) {t : TS} {mB : α1 → α2 → α3 → α4 → α5 → M (Ctl R B S)} {ρn : S → List Sl} {ρb : B → List Sl} {C : Option Addr → Prop} (hC : ∀ q, C (some q)) (hr : ∀ a1 a2 a3 a4 a5, RB K T C t (ρ a1 a2 a3 a4 a5) (mB a1 a2 a3 a4 a5) ρn ρb)
    {vs : List V} {H : Hp} {Q : VK} {E : XK} (h : spP5 K T (fun a1 a2 a3 a4 a5 => outW (mB a1 a2 a3 a4 a5)) vs H Q E) : t { nx := fun _ H' => Q .non H', rt := Q } (L2.start N vs) H := by
  obtain ⟨q, n, a1, a2, a3, a4, a5, v1, v2, v3, v4, v5, f1, f2, f3, f4, f5, rfl, ⟨i1, i2, i3, i4, i5, j1, j2, j3, j4, j5⟩, tb, pp, P0, h, hq⟩ := h
  refine end_pot (hr a1 a2 a3 a4 a5) (hC q) rfl ⟨_, st_start (ss := [Sl.pot, s1 a1, s2 a2, s3 a3, s4 a4, s5 a5]) (fps := [[], f1, f2, f3, f4, f5]) tb (fun b o z => ⟨z.1, z.2.1, fun w => z.2.2 (Option.some.inj w).symm⟩) (fun a z => by rw [← Option.some.inj z]; exact pp) rfl (fun i s hi => ?_) (fun i d hi => ?_) (e a1 a2 a3 a4 a5)⟩ h hq
  · match i, hi with
    | 0, hi =>
      obtain rfl := Option.some.inj hi
      exact ⟨q, rfl, rfl⟩
    | 1, hi =>
      obtain rfl := Option.some.inj hi
      exact (p1 _ _ _ _ _ _ i1 (lists_bp i1 j1)).1
    | 2, hi =>
      obtain rfl := Option.some.inj hi
      exact (p2 _ _ _ _ _ _ i2 (lists_bp i2 j2)).1
    | 3, hi =>
      obtain rfl := Option.some.inj hi
      exact (p3 _ _ _ _ _ _ i3 (lists_bp i3 j3)).1
    | 4, hi =>
      obtain rfl := Option.some.inj hi
      exact (p4 _ _ _ _ _ _ i4 (lists_bp i4 j4)).1
    | 5, hi =>
      obtain rfl := Option.some.inj hi
      exact (p5 _ _ _ _ _ _ i5 (lists_bp i5 j5)).1
    | i + 6, hi => cases hi
  · match i, hi with
    | 0, hi => cases hi
    | 1, hi => exact (p1 (fun b o => H b = some o ∧ (∀ ps, o ≠ .tbl ps) ∧ b ≠ q) (some q) H _ _ _ i1 (lists_bp i1 j1)).2 _ (Option.some.inj hi)
    | 2, hi => exact (p2 (fun b o => H b = some o ∧ (∀ ps, o ≠ .tbl ps) ∧ b ≠ q) (some q) H _ _ _ i2 (lists_bp i2 j2)).2 _ (Option.some.inj hi)
    | 3, hi => exact (p3 (fun b o => H b = some o ∧ (∀ ps, o ≠ .tbl ps) ∧ b ≠ q) (some q) H _ _ _ i3 (lists_bp i3 j3)).2 _ (Option.some.inj hi)
    | 4, hi => exact (p4 (fun b o => H b = some o ∧ (∀ ps, o ≠ .tbl ps) ∧ b ≠ q) (some q) H _ _ _ i4 (lists_bp i4 j4)).2 _ (Option.some.inj hi)
    | 5, hi => exact (p5 (fun b o => H b = some o ∧ (∀ ps, o ≠ .tbl ps) ∧ b ≠ q) (some q) H _ _ _ i5 (lists_bp i5 j5)).2 _ (Option.some.inj hi)
    | i + 6, hi => cases hi
theorem re_callp5 {α1 α2 α3 α4 α5 R : Type} [Enc α1] [Enc α2] [Enc α3] [Enc α4] [Enc α5] [Enc R] {f : α1 → α2 → α3 → α4 → α5 → M R} {E : XK} {ip : Nat} (hpot : ρ[ip]? = some .pot) {t1 : TE} {m1 : M α1} {b1 : Bool} (h1 : RE K T t1 ρ b1 m1) {t2 : TE} {m2 : M α2} {b2 : Bool} (h2 : RE K T t2 ρ b2 m2) {t3 : TE} {m3 : M α3} {b3 : Bool} (h3 : RE K T t3 ρ b3 m3) {t4 : TE} {m4 : M α4} {b4 : Bool} (h4 : RE K T t4 ρ b4 m4) {t5 : TE} {m5 : M α5} {b5 : Bool} (h5 : RE K T t5 ρ b5 m5) : RE K T (tCall (spP5 K T f) [] E (tCons (tVar ip) (tCons t1 (tCons t2 (tCons t3 (tCons t4 (tCons t5 tNil))))))) ρ true (c5W m1 m2 m3 m4 m5 f) := fun Bs po φ σ H n st P p Q q =>
  let ⟨u, e1, e2⟩ := st.sl ip _ hpot
  ⟨_, e2,
  h1 Bs po φ σ H n st _ p _ fun a1 n1 v1 H1 f1 p1 x1 i1 g1 =>
  h2 Bs po φ σ H1 n1 (st.af x1) _ p1 _ fun a2 n2 v2 H2 f2 p2 x2 i2 g2 =>
  h3 Bs po φ σ H2 n2 ((st.af x1).af x2) _ p2 _ fun a3 n3 v3 H3 f3 p3 x3 i3 g3 =>
  h4 Bs po φ σ H3 n3 (((st.af x1).af x2).af x3) _ p3 _ fun a4 n4 v4 H4 f4 p4 x4 i4 g4 =>
  h5 Bs po φ σ H4 n4 ((((st.af x1).af x2).af x3).af x4) _ p4 _ fun a5 n5 v5 H5 f5 p5 x5 i5 g5 =>
  ⟨u, n5, _, _, _, _, _, _, _, _, _, _, _, _, _, _, _, rfl, ⟨((((i1.af g1.1 x2.fr).af g1.1 x3.fr).af g1.1 x4.fr).af g1.1 x5.fr), (((i2.af g2.1 x3.fr).af g2.1 x4.fr).af g2.1 x5.fr), ((i3.af g3.1 x4.fr).af g3.1 x5.fr), (i4.af g4.1 x5.fr), i5, fun b hb z => g1.1 b hb (by rw [z]; exact e1), fun b hb z => g2.1 b hb (by rw [z]; exact e1), fun b hb z => g3.1 b hb (by rw [z]; exact e1), fun b hb z => g4.1 b hb (by rw [z]; exact e1), fun b hb z => g5.1 b hb (by rw [z]; exact e1)⟩, (((((st.af x1).af x2).af x3).af x4).af x5).tabs, (((((st.af x1).af x2).af x3).af x4).af x5).pot u e1, _, p5, fun r c v' H' fp pr af im nd hf => q r c v' H' fp pr (Af.trans (Af.trans (Af.trans (Af.trans (Af.trans x1 x2) x3) x4) x5) (by rw [e1]; exact af)) im (Fp.back (Af.trans (Af.trans (Af.trans (Af.trans x1 x2) x3) x4) x5).fr ⟨fun b hb => by rw [e1]; exact fun z => (hf b hb).1 (Option.some.inj z).symm, fun _ => ⟨nd, fun b hb => (hf b hb).2⟩⟩)⟩⟩
def spW6 (K : PySem.W.Frag) (T : List (Addr × Str)) {α1 α2 α3 α4 α5 α6 R : Type} [Enc α1] [Enc α2] [Enc α3] [Enc α4] [Enc α5] [Enc α6] [Enc R] (f : α1 → α2 → α3 → α4 → α5 → α6 → M R) : Sp := fun vs H Q _ => ∃ (a1 : α1) (a2 : α2) (a3 : α3) (a4 : α4) (a5 : α5) (a6 : α6) (v1 v2 v3 v4 v5 v6 : V) (f1 f2 f3 f4 f5 f6 : List Addr), vs = [v1, v2, v3, v4, v5, v6] ∧ (Im K H v1 (enc a1) f1 ∧ Im K H v2 (enc a2) f2 ∧ Im K H v3 (enc a3) f3 ∧ Im K H v4 (enc a4) f4 ∧ Im K H v5 (enc a5) f5 ∧ Im K H v6 (enc a6) f6) ∧ Tabs T H ∧ ∃ P0 : R → Nat → Prop, f a1 a2 a3 a4 a5 a6 0 P0 ∧ ∀ r c v' H' fp, P0 r c → Af K T none H 0 H' 0 → Im K H' v' (enc r) fp → fp.Nodup → (∀ b ∈ fp, Fsh H b) → Q v' H'
theorem spW6_len {α1 α2 α3 α4 α5 α6 R : Type} [Enc α1] [Enc α2] [Enc α3] [Enc α4] [Enc α5] [Enc α6] [Enc R] {f : α1 → α2 → α3 → α4 → α5 → α6 → M R} {vs : List V} {H : Hp} {Q : VK} {E : XK} (h : spW6 K T f vs H Q E) : vs.length = 6 := by
  obtain ⟨a1, a2, a3, a4, a5, a6, v1, v2, v3, v4, v5, v6, f1, f2, f3, f4, f5, f6, rfl, _⟩ := h
  rfl
theorem w6_run {α1 α2 α3 α4 α5 α6 R : Type} [Enc α1] [Enc α2] [Enc α3] [Enc α4] [Enc α5] [Enc α6] [Enc R] {B S : Type} {N : List Str} {s1 : α1 → Sl} (p1 : PSl K s1) {s2 : α2 → Sl} (p2 : PSl K s2) {s3 : α3 → Sl} (p3 : PSl K s3) {s4 : α4 → Sl} (p4 : PSl K s4) {s5 : α5 → Sl} (p5 : PSl K s5) {s6 : α6 → Sl} (p6 : PSl K s6) {ρ : α1 → α2 → α3 → α4 → α5 → α6 → List Sl} (e : ∀ a1 a2 a3 a4 a5 a6, [s1 a1, s2 a2, s3 a3, s4 a4, s5 a5, s6 a6] ++ List.replicate (N.length - 6) Sl.any = ρ a1 a2 a3 a4 a5 a6) {t : TS} {mB : α1 → α2 → α3 → α4 → α5 → α6 → M (Ctl R B S)} {ρn : S → List Sl} {ρb : B → List Sl} {C : Option Addr → Prop} (hC : C none) (hr : ∀ a1 a2 a3 a4 a5 a6, RB K T C t (ρ a1 a2 a3 a4 a5 a6) (mB a1 a2 a3 a4 a5 a6) ρn ρb)
    {vs : List V} {H : Hp} {Q : VK} {E : XK} (h : spW6 K T (fun a1 a2 a3 a4 a5 a6 => outW (mB a1 a2 a3 a4 a5 a6)) vs H Q E) : t { nx := fun _ H' => Q .non H', rt := Q } (L2.start N vs) H := by
  obtain ⟨a1, a2, a3, a4, a5, a6, v1, v2, v3, v4, v5, v6, f1, f2, f3, f4, f5, f6, rfl, ⟨i1, i2, i3, i4, i5, i6⟩, tb, P0, h, hq⟩ := h
  refine end_pure (hr a1 a2 a3 a4 a5 a6) hC rfl ⟨_, st_start (ss := [s1 a1, s2 a2, s3 a3, s4 a4, s5 a5, s6 a6]) (fps := [f1, f2, f3, f4, f5, f6]) tb (fun b o z => ⟨z.1, z.2, by simp⟩) (fun a z => nomatch z) rfl (fun i s hi => ?_) (fun i d hi => ?_) (e a1 a2 a3 a4 a5 a6)⟩ h hq
  · match i, hi with
    | 0, hi =>
      obtain rfl := Option.some.inj hi
      exact (p1 _ _ _ _ _ _ i1 (lists_bs i1)).1
    | 1, hi =>
      obtain rfl := Option.some.inj hi
      exact (p2 _ _ _ _ _ _ i2 (lists_bs i2)).1
    | 2, hi =>
      obtain rfl := Option.some.inj hi
      exact (p3 _ _ _ _ _ _ i3 (lists_bs i3)).1
    | 3, hi =>
      obtain rfl := Option.some.inj hi
      exact (p4 _ _ _ _ _ _ i4 (lists_bs i4)).1
    | 4, hi =>
      obtain rfl := Option.some.inj hi
      exact (p5 _ _ _ _ _ _ i5 (lists_bs i5)).1
    | 5, hi =>
      obtain rfl := Option.some.inj hi
      exact (p6 _ _ _ _ _ _ i6 (lists_bs i6)).1
    | i + 6, hi => cases hi
  · match i, hi with
    | 0, hi => exact (p1 (fun b o => H b = some o ∧ ∀ ps, o ≠ .tbl ps) none H _ _ _ i1 (lists_bs i1)).2 _ (Option.some.inj hi)
    | 1, hi => exact (p2 (fun b o => H b = some o ∧ ∀ ps, o ≠ .tbl ps) none H _ _ _ i2 (lists_bs i2)).2 _ (Option.some.inj hi)
    | 2, hi => exact (p3 (fun b o => H b = some o ∧ ∀ ps, o ≠ .tbl ps) none H _ _ _ i3 (lists_bs i3)).2 _ (Option.some.inj hi)
    | 3, hi => exact (p4 (fun b o => H b = some o ∧ ∀ ps, o ≠ .tbl ps) none H _ _ _ i4 (lists_bs i4)).2 _ (Option.some.inj hi)
    | 4, hi => exact (p5 (fun b o => H b = some o ∧ ∀ ps, o ≠ .tbl ps) none H _ _ _ i5 (lists_bs i5)).2 _ (Option.some.inj hi)
    | 5, hi => exact (p6 (fun b o => H b = some o ∧ ∀ ps, o ≠ .tbl ps) none H _ _ _ i6 (lists_bs i6)).2 _ (Option.some.inj hi)
    | i + 6, hi => cases hi
theorem re_call6 {α1 α2 α3 α4 α5 α6 R : Type} [Enc α1] [Enc α2] [Enc α3] [Enc α4] [Enc α5] [Enc α6] [Enc R] {f : α1 → α2 → α3 → α4 → α5 → α6 → M R} {E : XK} {t1 : TE} {m1 : M α1} {b1 : Bool} (h1 : RE K T t1 ρ b1 m1) {t2 : TE} {m2 : M α2} {b2 : Bool} (h2 : RE K T t2 ρ b2 m2) {t3 : TE} {m3 : M α3} {b3 : Bool} (h3 : RE K T t3 ρ b3 m3) {t4 : TE} {m4 : M α4} {b4 : Bool} (h4 : RE K T t4 ρ b4 m4) {t5 : TE} {m5 : M α5} {b5 : Bool} (h5 : RE K T t5 ρ b5 m5) {t6 : TE} {m6 : M α6} {b6 : Bool} (h6 : RE K T t6 ρ b6 m6) : RE K T (tCall (spW6 K T f) [] E (tCons t1 (tCons t2 (tCons t3 (tCons t4 (tCons t5 (tCons t6 tNil))))))) ρ true (c6W m1 m2 m3 m4 m5 m6 fun a1 a2 a3 a4 a5 a6 => pureW (f a1 a2 a3 a4 a5 a6)) := fun Bs po φ σ H n st P p Q q =>
  h1 Bs po φ σ H n st _ p _ fun a1 n1 v1 H1 f1 p1 x1 i1 g1 =>
  h2 Bs po φ σ H1 n1 (st.af x1) _ p1 _ fun a2 n2 v2 H2 f2 p2 x2 i2 g2 =>
  h3 Bs po φ σ H2 n2 ((st.af x1).af x2) _ p2 _ fun a3 n3 v3 H3 f3 p3 x3 i3 g3 =>
  h4 Bs po φ σ H3 n3 (((st.af x1).af x2).af x3) _ p3 _ fun a4 n4 v4 H4 f4 p4 x4 i4 g4 =>
  h5 Bs po φ σ H4 n4 ((((st.af x1).af x2).af x3).af x4) _ p4 _ fun a5 n5 v5 H5 f5 p5 x5 i5 g5 =>
  h6 Bs po φ σ H5 n5 (((((st.af x1).af x2).af x3).af x4).af x5) _ p5 _ fun a6 n6 v6 H6 f6 p6 x6 i6 g6 =>
  ⟨_, _, _, _, _, _, _, _, _, _, _, _, _, _, _, _, _, _, rfl, ⟨(((((i1.af g1.1 x2.fr).af g1.1 x3.fr).af g1.1 x4.fr).af g1.1 x5.fr).af g1.1 x6.fr), ((((i2.af g2.1 x3.fr).af g2.1 x4.fr).af g2.1 x5.fr).af g2.1 x6.fr), (((i3.af g3.1 x4.fr).af g3.1 x5.fr).af g3.1 x6.fr), ((i4.af g4.1 x5.fr).af g4.1 x6.fr), (i5.af g5.1 x6.fr), i6⟩, ((((((st.af x1).af x2).af x3).af x4).af x5).af x6).tabs, _, p6, fun r c v' H' fp pr af im nd hf => q r n6 v' H' fp pr (Af.trans (Af.trans (Af.trans (Af.trans (Af.trans (Af.trans x1 x2) x3) x4) x5) x6) ⟨Fr.weak af.fr, af.tabs, fun a e z => keep_pot af z⟩) im (Fp.back (Af.trans (Af.trans (Af.trans (Af.trans (Af.trans x1 x2) x3) x4) x5) x6).fr ⟨fun b hb => ((((((st.af x1).af x2).af x3).af x4).af x5).af x6).fresh_pot (hf b hb), fun _ => ⟨nd, hf⟩⟩)⟩
def spP6 (K : PySem.W.Frag) (T : List (Addr × Str)) {α1 α2 α3 α4 α5 α6 R : Type} [Enc α1] [Enc α2] [Enc α3] [Enc α4] [Enc α5] [Enc α6] [Enc R] (f : α1 → α2 → α3 → α4 → α5 → α6 → M R) : Sp := fun vs H Q _ => ∃ (q : Addr) (n : Nat) (a1 : α1) (a2 : α2) (a3 : α3) (a4 : α4) (a5 : α5) (a6 : α6) (v1 v2 v3 v4 v5 v6 : V) (f1 f2 f3 f4 f5 f6 : List Addr), vs = [.ref q, v1, v2, v3, v4, v5, v6] ∧ (Im K H v1 (enc a1) f1 ∧ Im K H v2 (enc a2) f2 ∧ Im K H v3 (enc a3) f3 ∧ Im K H v4 (enc a4) f4 ∧ Im K H v5 (enc a5) f5 ∧ Im K H v6 (enc a6) f6 ∧ (∀ b ∈ f1, b ≠ q) ∧ (∀ b ∈ f2, b ≠ q) ∧ (∀ b ∈ f3, b ≠ q) ∧ (∀ b ∈ f4, b ≠ q) ∧ (∀ b ∈ f5, b ≠ q) ∧ (∀ b ∈ f6, b ≠ q)) ∧ Tabs T H ∧ Pot H q n ∧ ∃ P0 : R → Nat → Prop, f a1 a2 a3 a4 a5 a6 n P0 ∧ ∀ r n' v' H' fp, P0 r n' → Af K T (some q) H n H' n' → Im K H' v' (enc r) fp → fp.Nodup → (∀ b ∈ fp, b ≠ q ∧ Fsh H b) → Q v' H'
theorem spP6_len {α1 α2 α3 α4 α5 α6 R : Type} [Enc α1] [Enc α2] [Enc α3] [Enc α4] [Enc α5] [Enc α6] [Enc R] {f : α1 → α2 → α3 → α4 → α5 → α6 → M R} {vs : List V} {H : Hp} {Q : VK} {E : XK} (h : spP6 K T f vs H Q E) : vs.length = 7 := by
  obtain ⟨q, n, a1, a2, a3, a4, a5, a6, v1, v2, v3, v4, v5, v6, f1, f2, f3, f4, f5, f6, rfl, _⟩ := h
  rfl
theorem p6_run {α1 α2 α3 α4 α5 α6 R : Type} [Enc α1] [Enc α2] [Enc α3] [Enc α4] [Enc α5] [Enc α6] [Enc R] {B S : Type} {N : List Str} {s1 : α1 → Sl} (p1 : PSl K s1) {s2 : α2 → Sl} (p2 : PSl K s2) {s3 : α3 → Sl} (p3 : PSl K s3) {s4 : α4 → Sl} (p4 : PSl K s4) {s5 : α5 → Sl} (p5 : PSl K s5) {s6 : α6 → Sl} (p6 : PSl K s6) {ρ : α1 → α2 → α3 → α4 → α5 → α6 → List Sl} (e : ∀ a1 a2 a3 a4 a5 a6, [Sl.pot, s1 a1, s2 a2, s3 a3, s4 a4, s5 a5, s6 a6] ++ List.replicate (N.length - 7) Sl.any = ρ a1 a2 a3 a4 a5 a6) {t : TS} {mB : α1 → α2 → α3 → α4 → α5 → α6 → M (Ctl R B S)} {ρn : S → List Sl} {ρb : B → List Sl} {C : Option Addr → Prop} (hC : ∀ q, C (some q)) (hr : ∀ a1 a2 a3 a4 a5 a6, RB K T C t (ρ a1 a2 a3 a4 a5 a6) (mB a1 a2 a3 a4 a5 a6) ρn ρb)
    {vs : List V} {H : Hp} {Q : VK} {E : XK} (h : spP6 K T (fun a1 a2 a3 a4 a5 a6 => outW (mB a1 a2 a3 a4 a5 a6)) vs H Q E) : t { nx := fun _ H' => Q .non H', rt := Q } (L2.start N vs) H := by
  obtain ⟨q, n, a1, a2, a3, a4, a5, a6, v1, v2, v3, v4, v5, v6, f1, f2, f3, f4, f5, f6, rfl, ⟨i1, i2, i3, i4, i5, i6, j1, j2, j3, j4, j5, j6⟩, tb, pp, P0, h, hq⟩ := h
  refine end_pot (hr a1 a2 a3 a4 a5 a6) (hC q) rfl ⟨_, st_start (ss := [Sl.pot, s1 a1, s2 a2, s3 a3, s4 a4, s5 a5, s6 a6]) (fps := [[], f1, f2, f3, f4, f5, f6]) tb (fun b o z => ⟨z.1, z.2.1, fun w => z.2.2 (Option.some.inj w).symm⟩) (fun a z => by rw [← Option.some.inj z]; exact pp) rfl (fun i s hi => ?_) (fun i d hi => ?_) (e a1 a2 a3 a4 a5 a6)⟩ h hq
  · match i, hi with
    | 0, hi =>
      obtain rfl := Option.some.inj hi
      exact ⟨q, rfl, rfl⟩
    | 1, hi =>
      obtain rfl := Option.some.inj hi
      exact (p1 _ _ _ _ _ _ i1 (lists_bp i1 j1)).1
    | 2, hi =>
      obtain rfl := Option.some.inj hi
      exact (p2 _ _ _ _ _ _ i2 (lists_bp i2 j2)).1
    | 3, hi =>
      obtain rfl := Option.some.inj hi
      exact (p3 _ _ _ _ _ _ i3 (lists_bp i3 j3)).1
    | 4, hi =>
      obtain rfl := Option.some.inj hi
      exact (p4 _ _ _ _ _ _ i4 (lists_bp i4 j4)).1
    | 5, hi =>
      obtain rfl := Option.some.inj hi
      exact (p5 _ _ _ _ _ _ i5 (lists_bp i5 j5)).1
    | 6, hi =>
      obtain rfl := Option.some.inj hi
      exact (p6 _ _ _ _ _ _ i6 (lists_bp i6 j6)).1
    | i + 7, hi => cases hi
  · match i, hi with
    | 0, hi => cases hi
    | 1, hi => exact (p1 (fun b o => H b = some o ∧ (∀ ps, o ≠ .tbl ps) ∧ b ≠ q) (some q) H _ _ _ i1 (lists_bp i1 j1)).2 _ (Option.some.inj hi)
    | 2, hi => exact (p2 (fun b o => H b = some o ∧ (∀ ps, o ≠ .tbl ps) ∧ b ≠ q) (some q) H _ _ _ i2 (lists_bp i2 j2)).2 _ (Option.some.inj hi)
    | 3, hi => exact (p3 (fun b o => H b = some o ∧ (∀ ps, o ≠ .tbl ps) ∧ b ≠ q) (some q) H _ _ _ i3 (lists_bp i3 j3)).2 _ (Option.some.inj hi)
    | 4, hi => exact (p4 (fun b o => H b = some o ∧ (∀ ps, o ≠ .tbl ps) ∧ b ≠ q) (some q) H _ _ _ i4 (lists_bp i4 j4)).2 _ (Option.some.inj hi)
    | 5, hi => exact (p5 (fun b o => H b = some o ∧ (∀ ps, o ≠ .tbl ps) ∧ b ≠ q) (some q) H _ _ _ i5 (lists_bp i5 j5)).2 _ (Option.some.inj hi)
    | 6, hi => exact (p6 (fun b o => H b = some o ∧ (∀ ps, o ≠ .tbl ps) ∧ b ≠ q) (some q) H _ _ _ i6 (lists_bp i6 j6)).2 _ (Option.some.inj hi)
    | i + 7, hi => cases hi
theorem re_callp6 {α1 α2 α3 α4 α5 α6 R : Type} [Enc α1] [Enc α2] [Enc α3] [Enc α4] [Enc α5] [Enc α6] [Enc R] {f : α1 → α2 → α3 → α4 → α5 → α6 → M R} {E : XK} {ip : Nat} (hpot : ρ[ip]? = some .pot) {t1 : TE} {m1 : M α1} {b1 : Bool} (h1 : RE K T t1 ρ b1 m1) {t2 : TE} {m2 : M α2} {b2 : Bool} (h2 : RE K T t2 ρ b2 m2) {t3 : TE} {m3 : M α3} {b3 : Bool} (h3 : RE K T t3 ρ b3 m3) {t4 : TE} {m4 : M α4} {b4 : Bool} (h4 : RE K T t4 ρ b4 m4) {t5 : TE} {m5 : M α5} {b5 : Bool} (h5 : RE K T t5 ρ b5 m5) {t6 : TE} {m6 : M α6} {b6 : Bool} (h6 : RE K T t6 ρ b6 m6) : RE K T (tCall (spP6 K T f) [] E (tCons (tVar ip) (tCons t1 (tCons t2 (tCons t3 (tCons t4 (tCons t5 (tCons t6 tNil)))))))) ρ true (c6W m1 m2 m3 m4 m5 m6 f) := fun Bs po φ σ H n st P p Q q =>
  let ⟨u, e1, e2⟩ := st.sl ip _ hpot
  ⟨_, e2,
  h1 Bs po φ σ H n st _ p _ fun a1 n1 v1 H1 f1 p1 x1 i1 g1 =>
  h2 Bs po φ σ H1 n1 (st.af x1) _ p1 _ fun a2 n2 v2 H2 f2 p2 x2 i2 g2 =>
  h3 Bs po φ σ H2 n2 ((st.af x1).af x2) _ p2 _ fun a3 n3 v3 H3 f3 p3 x3 i3 g3 =>
  h4 Bs po φ σ H3 n3 (((st.af x1).af x2).af x3) _ p3 _ fun a4 n4 v4 H4 f4 p4 x4 i4 g4 =>
  h5 Bs po φ σ H4 n4 ((((st.af x1).af x2).af x3).af x4) _ p4 _ fun a5 n5 v5 H5 f5 p5 x5 i5 g5 =>
  h6 Bs po φ σ H5 n5 (((((st.af x1).af x2).af x3).af x4).af x5) _ p5 _ fun a6 n6 v6 H6 f6 p6 x6 i6 g6 =>
  ⟨u, n6, _, _, _, _, _, _, _, _, _, _, _, _, _, _, _, _, _, _, rfl, ⟨(((((i1.af g1.1 x2.fr).af g1.1 x3.fr).af g1.1 x4.fr).af g1.1 x5.fr).af g1.1 x6.fr), ((((i2.af g2.1 x3.fr).af g2.1 x4.fr).af g2.1 x5.fr).af g2.1 x6.fr), (((i3.af g3.1 x4.fr).af g3.1 x5.fr).af g3.1 x6.fr), ((i4.af g4.1 x5.fr).af g4.1 x6.fr), (i5.af g5.1 x6.fr), i6, fun b hb z => g1.1 b hb (by rw [z]; exact e1), fun b hb z => g2.1 b hb (by rw [z]; exact e1), fun b hb z => g3.1 b hb (by rw [z]; exact e1), fun b hb z => g4.1 b hb (by rw [z]; exact e1), fun b hb z => g5.1 b hb (by rw [z]; exact e1), fun b hb z => g6.1 b hb (by rw [z]; exact e1)⟩, ((((((st.af x1).af x2).af x3).af x4).af x5).af x6).tabs, ((((((st.af x1).af x2).af x3).af x4).af x5).af x6).pot u e1, _, p6, fun r c v' H' fp pr af im nd hf => q r c v' H' fp pr (Af.trans (Af.trans (Af.trans (Af.trans (Af.trans (Af.trans x1 x2) x3) x4) x5) x6) (by rw [e1]; exact af)) im (Fp.back (Af.trans (Af.trans (Af.trans (Af.trans (Af.trans x1 x2) x3) x4) x5) x6).fr ⟨fun b hb => by rw [e1]; exact fun z => (hf b hb).1 (Option.some.inj z).symm, fun _ => ⟨nd, fun b hb => (hf b hb).2⟩⟩)⟩⟩
def spW7 (K : PySem.W.Frag) (T : List (Addr × Str)) {α1 α2 α3 α4 α5 α6 α7 R : Type} [Enc α1] [Enc α2] [Enc α3] [Enc α4] [Enc α5] [Enc α6] [Enc α7] [Enc R] (f : α1 → α2 → α3 → α4 → α5 → α6 → α7 → M R) : Sp := fun vs H Q _ => ∃ (a1 : α1) (a2 : α2) (a3 : α3) (a4 : α4) (a5 : α5) (a6 : α6) (a7 : α7) (v1 v2 v3 v4 v5 v6 v7 : V) (f1 f2 f3 f4 f5 f6 f7 : List Addr), vs = [v1, v2, v3, v4, v5, v6, v7] ∧ (Im K H v1 (enc a1) f1 ∧ Im K H v2 (enc a2) f2 ∧ Im K H v3 (enc a3) f3 ∧ Im K H v4 (enc a4) f4 ∧ Im K H v5 (enc a5) f5 ∧ Im K H v6 (enc a6) f6 ∧ Im K H v7 (enc a7) f7) ∧ Tabs T H ∧ ∃ P0 : R → Nat → Prop, f a1 a2 a3 a4 a5 a6 a7 0 P0 ∧ ∀ r c v' H' fp, P0 r c → Af K T none H 0 H' 0 → Im K H' v' (enc r) fp → fp.Nodup → (∀ b ∈ fp, Fsh H b) → Q v' H'
theorem spW7_len {α1 α2 α3 α4 α5 α6 α7 R : Type} [Enc α1] [Enc α2] [Enc α3] [Enc α4] [Enc α5] [Enc α6] [Enc α7] [Enc R] {f : α1 → α2 → α3 → α4 → α5 → α6 → α7 → M R} {vs : List V} {H : Hp} {Q : VK} {E : XK} (h : spW7 K T f vs H Q E) : vs.length = 7 := by
  obtain ⟨a1, a2, a3, a4, a5, a6, a7, v1, v2, v3, v4, v5, v6, v7, f1, f2, f3, f4, f5, f6, f7, rfl, _⟩ := h
  rfl
theorem w7_run {α1 α2 α3 α4 α5 α6 α7 R : Type} [Enc α1] [Enc α2] [Enc α3] [Enc α4] [Enc α5] [Enc α6] [Enc α7] [Enc R] {B S : Type} {N : List Str} {s1 : α1 → Sl} (p1 : PSl K s1) {s2 : α2 → Sl} (p2 : PSl K s2) {s3 : α3 → Sl} (p3 : PSl K s3) {s4 : α4 → Sl} (p4 : PSl K s4) {s5 : α5 → Sl} (p5 : PSl K s5) {s6 : α6 → Sl} (p6 : PSl K s6) {s7 : α7 → Sl} (p7 : PSl K s7) {ρ : α1 → α2 → α3 → α4 → α5 → α6 → α7 → List Sl} (e : ∀ a1 a2 a3 a4 a5 a6 a7, [s1 a1, s2 a2, s3 a3, s4 a4, s5 a5, s6 a6, s7 a7] ++ List.replicate (N.length - 7) Sl.any = ρ a1 a2 a3 a4 a5 a6 a7) {t : TS} {mB : α1 → α2 → α3 → α4 → α5 → α6 → α7 → M (Ctl R B S)} {ρn : S → List Sl} {ρb : B → List Sl} {C : Option Addr → Prop} (hC : C none) (hr : ∀ a1 a2 a3 a4 a5 a6 a7, RB K T C t (ρ a1 a2 a3 a4 a5 a6 a7) (mB a1 a2 a3 a4 a5 a6 a7) ρn ρb)
    {vs : List V} {H : Hp} {Q : VK} {E : XK} (h : spW7 K T (fun a1 a2 a3 a4 a5 a6 a7 => outW (mB a1 a2 a3 a4 a5 a6 a7)) vs H Q E) : t { nx := fun _ H' => Q .non H', rt := Q } (L2.start N vs) H := by
  obtain ⟨a1, a2, a3, a4, a5, a6, a7, v1, v2, v3, v4, v5, v6, v7, f1, f2, f3, f4, f5, f6, f7, rfl, ⟨i1, i2, i3, i4, i5, i6, i7⟩, tb, P0, h, hq⟩ := h
  refine end_pure (hr a1 a2 a3 a4 a5 a6 a7) hC rfl ⟨_, st_start (ss := [s1 a1, s2 a2, s3 a3, s4 a4, s5 a5, s6 a6, s7 a7]) (fps := [f1, f2, f3, f4, f5, f6, f7]) tb (fun b o z => ⟨z.1, z.2, by simp⟩) (fun a z => nomatch z) rfl (fun i s hi => ?_) (fun i d hi => ?_) (e a1 a2 a3 a4 a5 a6 a7)⟩ h hq
  · match i, hi with
    | 0, hi =>
      obtain rfl := Option.some.inj hi
      exact (p1 _ _ _ _ _ _ i1 (lists_bs i1)).1
    | 1, hi =>
      obtain rfl := Option.some.inj hi
      exact (p2 _ _ _ _ _ _ i2 (lists_bs i2)).1
    | 2, hi =>
      obtain rfl := Option.some.inj hi
      exact (p3 _ _ _ _ _ _ i3 (lists_bs i3)).1
    | 3, hi =>
      obtain rfl := Option.some.inj hi
      exact (p4 _ _ _ _ _ _ i4 (lists_bs i4)).1
    | 4, hi =>
      obtain rfl := Option.some.inj hi
      exact (p5 _ _ _ _ _ _ i5 (lists_bs i5)).1
    | 5, hi =>
      obtain rfl := Option.some.inj hi
      exact (p6 _ _ _ _ _ _ i6 (lists_bs i6)).1
    | 6, hi =>
      obtain rfl := Option.some.inj hi
      exact (p7 _ _ _ _ _ _ i7 (lists_bs i7)).1
    | i + 7, hi => cases hi
  · match i, hi with
    | 0, hi => exact (p1 (fun b o => H b = some o ∧ ∀ ps, o ≠ .tbl ps) none H _ _ _ i1 (lists_bs i1)).2 _ (Option.some.inj hi)
    | 1, hi => exact (p2 (fun b o => H b = some o ∧ ∀ ps, o ≠ .tbl ps) none H _ _ _ i2 (lists_bs i2)).2 _ (Option.some.inj hi)
    | 2, hi => exact (p3 (fun b o => H b = some o ∧ ∀ ps, o ≠ .tbl ps) none H _ _ _ i3 (lists_bs i3)).2 _ (Option.some.inj hi)
    | 3, hi => exact (p4 (fun b o => H b = some o ∧ ∀ ps, o ≠ .tbl ps) none H _ _ _ i4 (lists_bs i4)).2 _ (Option.some.inj hi)
    | 4, hi => exact (p5 (fun b o => H b = some o ∧ ∀ ps, o ≠ .tbl ps) none H _ _ _ i5 (lists_bs i5)).2 _ (Option.some.inj hi)
    | 5, hi => exact (p6 (fun b o => H b = some o ∧ ∀ ps, o ≠ .tbl ps) none H _ _ _ i6 (lists_bs i6)).2 _ (Option.some.inj hi)
    | 6, hi => exact (p7 (fun b o => H b = some o ∧ ∀ ps, o ≠ .tbl ps) none H _ _ _ i7 (lists_bs i7)).2 _ (Option.some.inj hi)
    | i + 7, hi => cases hi
theorem re_call7 {α1 α2 α3 α4 α5 α6 α7 R : Type} [Enc α1] [Enc α2] [Enc α3] [Enc α4] [Enc α5] [Enc α6] [Enc α7] [Enc R] {f : α1 → α2 → α3 → α4 → α5 → α6 → α7 → M R} {E : XK} {t1 : TE} {m1 : M α1} {b1 : Bool} (h1 : RE K T t1 ρ b1 m1) {t2 : TE} {m2 : M α2} {b2 : Bool} (h2 : RE K T t2 ρ b2 m2) {t3 : TE} {m3 : M α3} {b3 : Bool} (h3 : RE K T t3 ρ b3 m3) {t4 : TE} {m4 : M α4} {b4 : Bool} (h4 : RE K T t4 ρ b4 m4) {t5 : TE} {m5 : M α5} {b5 : Bool} (h5 : RE K T t5 ρ b5 m5) {t6 : TE} {m6 : M α6} {b6 : Bool} (h6 : RE K T t6 ρ b6 m6) {t7 : TE} {m7 : M α7} {b7 : Bool} (h7 : RE K T t7 ρ b7 m7) : RE K T (tCall (spW7 K T f) [] E (tCons t1 (tCons t2 (tCons t3 (tCons t4 (tCons t5 (tCons t6 (tCons t7 tNil)))))))) ρ true (c7W m1 m2 m3 m4 m5 m6 m7 fun a1 a2 a3 a4 a5 a6 a7 => pureW (f a1 a2 a3 a4 a5 a6 a7)) := fun Bs po φ σ H n st P p Q q =>
  h1 Bs po φ σ H n st _ p _ fun a1 n1 v1 H1 f1 p1 x1 i1 g1 =>
  h2 Bs po φ σ H1 n1 (st.af x1) _ p1 _ fun a2 n2 v2 H2 f2 p2 x2 i2 g2 =>
  h3 Bs po φ σ H2 n2 ((st.af x1).af x2) _ p2 _ fun a3 n3 v3 H3 f3 p3 x3 i3 g3 =>
  h4 Bs po φ σ H3 n3 (((st.af x1).af x2).af x3) _ p3 _ fun a4 n4 v4 H4 f4 p4 x4 i4 g4 =>
  h5 Bs po φ σ H4 n4 ((((st.af x1).af x2).af x3).af x4) _ p4 _ fun a5 n5 v5 H5 f5 p5 x5 i5 g5 =>
  h6 Bs po φ σ H5 n5 (((((st.af x1).af x2).af x3).af x4).af x5) _ p5 _ fun a6 n6 v6 H6 f6 p6 x6 i6 g6 =>
  h7 Bs po φ σ H6 n6 ((((((st.af x1).af x2).af x3).af x4).af x5).af x6) _ p6 _ fun a7 n7 v7 H7 f7 p7 x7 i7 g7 =>
  ⟨_, _, _, _, _, _, _, _, _, _, _, _, _, _, _, _, _, _, _, _, _, rfl, ⟨((((((i1.af g1.1 x2.fr).af g1.1 x3.fr).af g1.1 x4.fr).af g1.1 x5.fr).af g1.1 x6.fr).af g1.1 x7.fr), (((((i2.af g2.1 x3.fr).af g2.1 x4.fr).af g2.1 x5.fr).af g2.1 x6.fr).af g2.1 x7.fr), ((((i3.af g3.1 x4.fr).af g3.1 x5.fr).af g3.1 x6.fr).af g3.1 x7.fr), (((i4.af g4.1 x5.fr).af g4.1 x6.fr).af g4.1 x7.fr), ((i5.af g5.1 x6.fr).af g5.1 x7.fr), (i6.af g6.1 x7.fr), i7⟩, (((((((st.af x1).af x2).af x3).af x4).af x5).af x6).af x7).tabs, _, p7, fun r c v' H' fp pr af im nd hf => q r n7 v' H' fp pr (Af.trans (Af.trans (Af.trans (Af.trans (Af.trans (Af.trans (Af.trans x1 x2) x3) x4) x5) x6) x7) ⟨Fr.weak af.fr, af.tabs, fun a e z => keep_pot af z⟩) im (Fp.back (Af.trans (Af.trans (Af.trans (Af.trans (Af.trans (Af.trans x1 x2) x3) x4) x5) x6) x7).fr ⟨fun b hb => (((((((st.af x1).af x2).af x3).af x4).af x5).af x6).af x7).fresh_pot (hf b hb), fun _ => ⟨nd, hf⟩⟩)⟩
def spP7 (K : PySem.W.Frag) (T : List (Addr × Str)) {α1 α2 α3 α4 α5 α6 α7 R : Type} [Enc α1] [Enc α2] [Enc α3] [Enc α4] [Enc α5] [Enc α6] [Enc α7] [Enc R] (f : α1 → α2 → α3 → α4 → α5 → α6 → α7 → M R) : Sp := fun vs H Q _ => ∃ (q : Addr) (n : Nat) (a1 : α1) (a2 : α2) (a3 : α3) (a4 : α4) (a5 : α5) (a6 : α6) (a7 : α7) (v1 v2 v3 v4 v5 v6 v7 : V) (f1 f2 f3 f4 f5 f6 f7 : List Addr), vs = [.ref q, v1, v2, v3, v4, v5, v6, v7] ∧ (Im K H v1 (enc a1) f1 ∧ Im K H v2 (enc a2) f2 ∧ Im K H v3 (enc a3) f3 ∧ Im K H v4 (enc a4) f4 ∧ Im K H v5 (enc a5) f5 ∧ Im K H v6 (enc a6) f6 ∧ Im K H v7 (enc a7) f7 ∧ (∀ b ∈ f1, b ≠ q) ∧ (∀ b ∈ f2, b ≠ q) ∧ (∀ b ∈ f3, b ≠ q) ∧ (∀ b ∈ f4, b ≠ q) ∧ (∀ b ∈ f5, b ≠ q) ∧ (∀ b ∈ f6, b ≠ q) ∧ (∀ b ∈ f7, b ≠ q)) ∧ Tabs T H ∧ Pot H q n ∧ ∃ P0 : R → Nat → Prop, f a1 a2 a3 a4 a5 a6 a7 n P0 ∧ ∀ r n' v' H' fp, P0 r n' → Af K T (some q) H n H' n' → Im K H' v' (enc r) fp → fp.Nodup → (∀ b ∈ fp, b ≠ q ∧ Fsh H b) → Q v' H'
theorem spP7_len {α1 α2 α3 α4 α5 α6 α7 R : Type} [Enc α1] [Enc α2] [Enc α3] [Enc α4] [Enc α5] [Enc α6] [Enc α7] [Enc R] {f : α1 → α2 → α3 → α4 → α5 → α6 → α7 → M R} {vs : List V} {H : Hp} {Q : VK} {E : XK} (h : spP7 K T f vs H Q E) : vs.length = 8 := by
  obtain ⟨q, n, a1, a2, a3, a4, a5, a6, a7, v1, v2, v3, v4, v5, v6, v7, f1, f2, f3, f4, f5, f6, f7, rfl, _⟩ := h
  rfl
theorem p7_run {α1 α2 α3 α4 α5 α6 α7 R : Type} [Enc α1] [Enc α2] [Enc α3] [Enc α4] [Enc α5] [Enc α6] [Enc α7] [Enc R] {B S : Type} {N : List Str} {s1 : α1 → Sl} (p1 : PSl K s1) {s2 : α2 → Sl} (p2 : PSl K s2) {s3 : α3 → Sl} (p3 : PSl K s3) {s4 : α4 → Sl} (p4 : PSl K s4) {s5 : α5 → Sl} (p5 : PSl K s5) {s6 : α6 → Sl} (p6 : PSl K s6) {s7 : α7 → Sl} (p7 : PSl K s7) {ρ : α1 → α2 → α3 → α4 → α5 → α6 → α7 → List Sl} (e : ∀ a1 a2 a3 a4 a5 a6 a7, [Sl.pot, s1 a1, s2 a2, s3 a3, s4 a4, s5 a5, s6 a6, s7 a7] ++ List.replicate (N.length - 8) Sl.any = ρ a1 a2 a3 a4 a5 a6 a7) {t : TS} {mB : α1 → α2 → α3 → α4 → α5 → α6 → α7 → M (Ctl R B S)} {ρn : S → List Sl} {ρb : B → List Sl} {C : Option Addr → Prop} (hC : ∀ q, C (some q)) (hr : ∀ a1 a2 a3 a4 a5 a6 a7, RB K T C t (ρ a1 a2 a3 a4 a5 a6 a7) (mB a1 a2 a3 a4 a5 a6 a7) ρn ρb)
    {vs : List V} {H : Hp} {Q : VK} {E : XK} (h : spP7 K T (fun a1 a2 a3 a4 a5 a6 a7 => outW (mB a1 a2 a3 a4 a5 a6 a7)) vs H Q E) : t { nx := fun _ H' => Q .non H', rt := Q } (L2.start N vs) H := by
  obtain ⟨q, n, a1, a2, a3, a4, a5, a6, a7, v1, v2, v3, v4, v5, v6, v7, f1, f2, f3, f4, f5, f6, f7, rfl, ⟨i1, i2, i3, i4, i5, i6, i7, j1, j2, j3, j4, j5, j6, j7⟩, tb, pp, P0, h, hq⟩ := h
  refine end_pot (hr a1 a2 a3 a4 a5 a6 a7) (hC q) rfl ⟨_, st_start (ss := [Sl.pot, s1 a1, s2 a2, s3 a3, s4 a4, s5 a5, s6 a6, s7 a7]) (fps := [[], f1, f2, f3, f4, f5, f6, f7]) tb (fun b o z => ⟨z.1, z.2.1, fun w => z.2.2 (Option.some.inj w).symm⟩) (fun a z => by rw [← Option.some.inj z]; exact pp) rfl (fun i s hi => ?_) (fun i d hi => ?_) (e a1 a2 a3 a4 a5 a6 a7)⟩ h hq
  · match i, hi with
    | 0, hi =>
      obtain rfl := Option.some.inj hi
      exact ⟨q, rfl, rfl⟩
    | 1, hi =>
      obtain rfl := Option.some.inj hi
      exact (p1 _ _ _ _ _ _ i1 (lists_bp i1 j1)).1
    | 2, hi =>
      obtain rfl := Option.some.inj hi
      exact (p2 _ _ _ _ _ _ i2 (lists_bp i2 j2)).1
    | 3, hi =>
      obtain rfl := Option.some.inj hi
      exact (p3 _ _ _ _ _ _ i3 (lists_bp i3 j3)).1
    | 4, hi =>
      obtain rfl := Option.some.inj hi
      exact (p4 _ _ _ _ _ _ i4 (lists_bp i4 j4)).1
    | 5, hi =>
      obtain rfl := Option.some.inj hi
      exact (p5 _ _ _ _ _ _ i5 (lists_bp i5 j5)).1
    | 6, hi =>
      obtain rfl := Option.some.inj hi
      exact (p6 _ _ _ _ _ _ i6 (lists_bp i6 j6)).1
    | 7, hi =>
      obtain rfl := Option.some.inj hi
      exact (p7 _ _ _ _ _ _ i7 (lists_bp i7 j7)).1
    | i + 8, hi => cases hi
  · match i, hi with
    | 0, hi => cases hi
    | 1, hi => exact (p1 (fun b o => H b = some o ∧ (∀ ps, o ≠ .tbl ps) ∧ b ≠ q) (some q) H _ _ _ i1 (lists_bp i1 j1)).2 _ (Option.some.inj hi)
    | 2, hi => exact (p2 (fun b o => H b = some o ∧ (∀ ps, o ≠ .tbl ps) ∧ b ≠ q) (some q) H _ _ _ i2 (lists_bp i2 j2)).2 _ (Option.some.inj hi)
    | 3, hi => exact (p3 (fun b o => H b = some o ∧ (∀ ps, o ≠ .tbl ps) ∧ b ≠ q) (some q) H _ _ _ i3 (lists_bp i3 j3)).2 _ (Option.some.inj hi)
    | 4, hi => exact (p4 (fun b o => H b = some o ∧ (∀ ps, o ≠ .tbl ps) ∧ b ≠ q) (some q) H _ _ _ i4 (lists_bp i4 j4)).2 _ (Option.some.inj hi)
    | 5, hi => exact (p5 (fun b o => H b = some o ∧ (∀ ps, o ≠ .tbl ps) ∧ b ≠ q) (some q) H _ _ _ i5 (lists_bp i5 j5)).2 _ (Option.some.inj hi)
    | 6, hi => exact (p6 (fun b o => H b = some o ∧ (∀ ps, o ≠ .tbl ps) ∧ b ≠ q) (some q) H _ _ _ i6 (lists_bp i6 j6)).2 _ (Option.some.inj hi)
    | 7, hi => exact (p7 (fun b o => H b = some o ∧ (∀ ps, o ≠ .tbl ps) ∧ b ≠ q) (some q) H _ _ _ i7 (lists_bp i7 j7)).2 _ (Option.some.inj hi)
    | i + 8, hi => cases hi
theorem re_callp7 {α1 α2 α3 α4 α5 α6 α7 R : Type} [Enc α1] [Enc α2] [Enc α3] [Enc α4] [Enc α5] [Enc α6] [Enc α7] [Enc R] {f : α1 → α2 → α3 → α4 → α5 → α6 → α7 → M R} {E : XK} {ip : Nat} (hpot : ρ[ip]? = some .pot) {t1 : TE} {m1 : M α1} {b1 : Bool} (h1 : RE K T t1 ρ b1 m1) {t2 : TE} {m2 : M α2} {b2 : Bool} (h2 : RE K T t2 ρ b2 m2) {t3 : TE} {m3 : M α3} {b3 : Bool} (h3 : RE K T t3 ρ b3 m3) {t4 : TE} {m4 : M α4} {b4 : Bool} (h4 : RE K T t4 ρ b4 m4) {t5 : TE} {m5 : M α5} {b5 : Bool} (h5 : RE K T t5 ρ b5 m5) {t6 : TE} {m6 : M α6} {b6 : Bool} (h6 : RE K T t6 ρ b6 m6) {t7 : TE} {m7 : M α7} {b7 : Bool} (h7 : RE K T t7 ρ b7 m7) : RE K T (tCall (spP7 K T f) [] E (tCons (tVar ip) (tCons t1 (tCons t2 (tCons t3 (tCons t4 (tCons t5 (tCons t6 (tCons t7 tNil))))))))) ρ true (c7W m1 m2 m3 m4 m5 m6 m7 f) := fun Bs po φ σ H n st P p Q q =>
  let ⟨u, e1, e2⟩ := st.sl ip _ hpot
  ⟨_, e2,
  h1 Bs po φ σ H n st _ p _ fun a1 n1 v1 H1 f1 p1 x1 i1 g1 =>
  h2 Bs po φ σ H1 n1 (st.af x1) _ p1 _ fun a2 n2 v2 H2 f2 p2 x2 i2 g2 =>
  h3 Bs po φ σ H2 n2 ((st.af x1).af x2) _ p2 _ fun a3 n3 v3 H3 f3 p3 x3 i3 g3 =>
  h4 Bs po φ σ H3 n3 (((st.af x1).af x2).af x3) _ p3 _ fun a4 n4 v4 H4 f4 p4 x4 i4 g4 =>
  h5 Bs po φ σ H4 n4 ((((st.af x1).af x2).af x3).af x4) _ p4 _ fun a5 n5 v5 H5 f5 p5 x5 i5 g5 =>
  h6 Bs po φ σ H5 n5 (((((st.af x1).af x2).af x3).af x4).af x5) _ p5 _ fun a6 n6 v6 H6 f6 p6 x6 i6 g6 =>
  h7 Bs po φ σ H6 n6 ((((((st.af x1).af x2).af x3).af x4).af x5).af x6) _ p6 _ fun a7 n7 v7 H7 f7 p7 x7 i7 g7 =>
  ⟨u, n7, _, _, _, _, _, _, _, _, _, _, _, _, _, _, _, _, _, _, _, _, _, rfl, ⟨((((((i1.af g1.1 x2.fr).af g1.1 x3.fr).af g1.1 x4.fr).af g1.1 x5.fr).af g1.1 x6.fr).af g1.1 x7.fr), (((((i2.af g2.1 x3.fr).af g2.1 x4.fr).af g2.1 x5.fr).af g2.1 x6.fr).af g2.1 x7.fr), ((((i3.af g3.1 x4.fr).af g3.1 x5.fr).af g3.1 x6.fr).af g3.1 x7.fr), (((i4.af g4.1 x5.fr).af g4.1 x6.fr).af g4.1 x7.fr), ((i5.af g5.1 x6.fr).af g5.1 x7.fr), (i6.af g6.1 x7.fr), i7, fun b hb z => g1.1 b hb (by rw [z]; exact e1), fun b hb z => g2.1 b hb (by rw [z]; exact e1), fun b hb z => g3.1 b hb (by rw [z]; exact e1), fun b hb z => g4.1 b hb (by rw [z]; exact e1), fun b hb z => g5.1 b hb (by rw [z]; exact e1), fun b hb z => g6.1 b hb (by rw [z]; exact e1), fun b hb z => g7.1 b hb (by rw [z]; exact e1)⟩, (((((((st.af x1).af x2).af x3).af x4).af x5).af x6).af x7).tabs, (((((((st.af x1).af x2).af x3).af x4).af x5).af x6).af x7).pot u e1, _, p7, fun r c v' H' fp pr af im nd hf => q r c v' H' fp pr (Af.trans (Af.trans (Af.trans (Af.trans (Af.trans (Af.trans (Af.trans x1 x2) x3) x4) x5) x6) x7) (by rw [e1]; exact af)) im (Fp.back (Af.trans (Af.trans (Af.trans (Af.trans (Af.trans (Af.trans x1 x2) x3) x4) x5) x6) x7).fr ⟨fun b hb => by rw [e1]; exact fun z => (hf b hb).1 (Option.some.inj z).symm, fun _ => ⟨nd, fun b hb => (hf b hb).2⟩⟩)⟩⟩
def spW8 (K : PySem.W.Frag) (T : List (Addr × Str)) {α1 α2 α3 α4 α5 α6 α7 α8 R : Type} [Enc α1] [Enc α2] [Enc α3] [Enc α4] [Enc α5] [Enc α6] [Enc α7] [Enc α8] [Enc R] (f : α1 → α2 → α3 → α4 → α5 → α6 → α7 → α8 → M R) : Sp := fun vs H Q _ => ∃ (a1 : α1) (a2 : α2) (a3 : α3) (a4 : α4) (a5 : α5) (a6 : α6) (a7 : α7) (a8 : α8) (v1 v2 v3 v4 v5 v6 v7 v8 : V) (f1 f2 f3 f4 f5 f6 f7 f8 : List Addr), vs = [v1, v2, v3, v4, v5, v6, v7, v8] ∧ (Im K H v1 (enc a1) f1 ∧ Im K H v2 (enc a2) f2 ∧ Im K H v3 (enc a3) f3 ∧ Im K H v4 (enc a4) f4 ∧ Im K H v5 (enc a5) f5 ∧ Im K H v6 (enc a6) f6 ∧ Im K H v7 (enc a7) f7 ∧ Im K H v8 (enc a8) f8) ∧ Tabs T H ∧ ∃ P0 : R → Nat → Prop, f a1 a2 a3 a4 a5 a6 a7 a8 0 P0 ∧ ∀ r c v' H' fp, P0 r c → Af K T none H 0 H' 0 → Im K H' v' (enc r) fp → fp.Nodup → (∀ b ∈ fp, Fsh H b) → Q v' H'
theorem spW8_len {α1 α2 α3 α4 α5 α6 α7 α8 R : Type} [Enc α1] [Enc α2] [Enc α3] [Enc α4] [Enc α5] [Enc α6] [Enc α7] [Enc α8] [Enc R] {f : α1 → α2 → α3 → α4 → α5 → α6 → α7 → α8 → M R} {vs : List V} {H : Hp} {Q : VK} {E : XK} (h : spW8 K T f vs H Q E) : vs.length = 8 := by
  obtain ⟨a1, a2, a3, a4, a5, a6, a7, a8, v1, v2, v3, v4, v5, v6, v7, v8, f1, f2, f3, f4, f5, f6, f7, f8, rfl, _⟩ := h
  rfl
theorem w8_run {α1 α2 α3 α4 α5 α6 α7 α8 R : Type} [Enc α1] [Enc α2] [Enc α3] [Enc α4] [Enc α5] [Enc α6] [Enc α7] [Enc α8] [Enc R] {B S : Type} {N : List Str} {s1 : α1 → Sl} (p1 : PSl K s1) {s2 : α2 → Sl} (p2 : PSl K s2) {s3 : α3 → Sl} (p3 : PSl K s3) {s4 : α4 → Sl} (p4 : PSl K s4) {s5 : α5 → Sl} (p5 : PSl K s5) {s6 : α6 → Sl} (p6 : PSl K s6) {s7 : α7 → Sl} (p7 : PSl K s7) {s8 : α8 → Sl} (p8 : PSl K s8) {ρ : α1 → α2 → α3 → α4 → α5 → α6 → α7 → α8 → List Sl} (e : ∀ a1 a2 a3 a4 a5 a6 a7 a8, [s1 a1, s2 a2, s3 a3, s4 a4, s5 a5, s6 a6, s7 a7, s8 a8] ++ List.replicate (N.length - 8) Sl.any = ρ a1 a2 a3 a4 a5 a6 a7 a8) {t : TS} {mB : α1 → α2 → α3 → α4 → α5 → α6 → α7 → α8 → M (Ctl R B S)} {ρn : S → List Sl} {ρb : B → List Sl} {C : Option Addr → Prop} (hC : C none) (hr : ∀ a1 a2 a3 a4 a5 a6 a7 a8, RB K T C t (ρ a1 a2 a3 a4 a5 a6 a7 a8) (mB a1 a2 a3 a4 a5 a6 a7 a8) ρn ρb)
    {vs : List V} {H : Hp} {Q : VK} {E : XK} (h : spW8 K T (fun a1 a2 a3 a4 a5 a6 a7 a8 => outW (mB a1 a2 a3 a4 a5 a6 a7 a8)) vs H Q E) : t { nx := fun _ H' => Q .non H', rt := Q } (L2.start N vs) H := by
  obtain ⟨a1, a2, a3, a4, a5, a6, a7, a8, v1, v2, v3, v4, v5, v6, v7, v8, f1, f2, f3, f4, f5, f6, f7, f8, rfl, ⟨i1, i2, i3, i4, i5, i6, i7, i8⟩, tb, P0, h, hq⟩ := h
  refine end_pure (hr a1 a2 a3 a4 a5 a6 a7 a8) hC rfl ⟨_, st_start (ss := [s1 a1, s2 a2, s3 a3, s4 a4, s5 a5, s6 a6, s7 a7, s8 a8]) (fps := [f1, f2, f3, f4, f5, f6, f7, f8]) tb (fun b o z => ⟨z.1, z.2, by simp⟩) (fun a z => nomatch z) rfl (fun i s hi => ?_) (fun i d hi => ?_) (e a1 a2 a3 a4 a5 a6 a7 a8)⟩ h hq
  · match i, hi with
    | 0, hi =>
      obtain rfl := Option.some.inj hi
      exact (p1 _ _ _ _ _ _ i1 (lists_bs i1)).1
    | 1, hi =>
      obtain rfl := Option.some.inj hi
      exact (p2 _ _ _ _ _ _ i2 (lists_bs i2)).1
    | 2, hi =>
      obtain rfl := Option.some.inj hi
      exact (p3 _ _ _ _ _ _ i3 (lists_bs i3)).1
    | 3, hi =>
      obtain rfl := Option.some.inj hi
      exact (p4 _ _ _ _ _ _ i4 (lists_bs i4)).1
    | 4, hi =>
      obtain rfl := Option.some.inj hi
      exact (p5 _ _ _ _ _ _ i5 (lists_bs i5)).1
    | 5, hi =>
      obtain rfl := Option.some.inj hi
      exact (p6 _ _ _ _ _ _ i6 (lists_bs i6)).1
    | 6, hi =>
      obtain rfl := Option.some.inj hi
      exact (p7 _ _ _ _ _ _ i7 (lists_bs i7)).1
    | 7, hi =>
      obtain rfl := Option.some.inj hi
      exact (p8 _ _ _ _ _ _ i8 (lists_bs i8)).1
    | i + 8, hi => cases hi
  · match i, hi with
    | 0, hi => exact (p1 (fun b o => H b = some o ∧ ∀ ps, o ≠ .tbl ps) none H _ _ _ i1 (lists_bs i1)).2 _ (Option.some.inj hi)
    | 1, hi => exact (p2 (fun b o => H b = some o ∧ ∀ ps, o ≠ .tbl ps) none H _ _ _ i2 (lists_bs i2)).2 _ (Option.some.inj hi)
    | 2, hi => exact (p3 (fun b o => H b = some o ∧ ∀ ps, o ≠ .tbl ps) none H _ _ _ i3 (lists_bs i3)).2 _ (Option.some.inj hi)
    | 3, hi => exact (p4 (fun b o => H b = some o ∧ ∀ ps, o ≠ .tbl ps) none H _ _ _ i4 (lists_bs i4)).2 _ (Option.some.inj hi)
    | 4, hi => exact (p5 (fun b o => H b = some o ∧ ∀ ps, o ≠ .tbl ps) none H _ _ _ i5 (lists_bs i5)).2 _ (Option.some.inj hi)
    | 5, hi => exact (p6 (fun b o => H b = some o ∧ ∀ ps, o ≠ .tbl ps) none H _ _ _ i6 (lists_bs i6)).2 _ (Option.some.inj hi)
    | 6, hi => exact (p7 (fun b o => H b = some o ∧ ∀ ps, o ≠ .tbl ps) none H _ _ _ i7 (lists_bs i7)).2 _ (Option.some.inj hi)
    | 7, hi => exact (p8 (fun b o => H b = some o ∧ ∀ ps, o ≠ .tbl ps) none H _ _ _ i8 (lists_bs i8)).2 _ (Option.some.inj hi)
    | i + 8, hi => cases hi
theorem re_call8 {α1 α2 α3 α4 α5 α6 α7 α8 R : Type} [Enc α1] [Enc α2] [Enc α3] [Enc α4] [Enc α5] [Enc α6] [Enc α7] [Enc α8] [Enc R] {f : α1 → α2 → α3 → α4 → α5 → α6 → α7 → α8 → M R} {E : XK} {t1 : TE} {m1 : M α1} {b1 : Bool} (h1 : RE K T t1 ρ b1 m1) {t2 : TE} {m2 : M α2} {b2 : Bool} (h2 : RE K T t2 ρ b2 m2) {t3 : TE} {m3 : M α3} {b3 : Bool} (h3 : RE K T t3 ρ b3 m3) {t4 : TE} {m4 : M α4} {b4 : Bool} (h4 : RE K T t4 ρ b4 m4) {t5 : TE} {m5 : M α5} {b5 : Bool} (h5 : RE K T t5 ρ b5 m5) {t6 : TE} {m6 : M α6} {b6 : Bool} (h6 : RE K T t6 ρ b6 m6) {t7 : TE} {m7 : M α7} {b7 : Bool} (h7 : RE K T t7 ρ b7 m7) {t8 : TE} {m8 : M α8} {b8 : Bool} (h8 : RE K T t8 ρ b8 m8) : RE K T (tCall (spW8 K T f) [] E (tCons t1 (tCons t2 (tCons t3 (tCons t4 (tCons t5 (tCons t6 (tCons t7 (tCons t8 tNil))))))))) ρ true (c8W m1 m2 m3 m4 m5 m6 m7 m8 fun a1 a2 a3 a4 a5 a6 a7 a8 => pureW (f a1 a2 a3 a4 a5 a6 a7 a8)) := fun Bs po φ σ H n st P p Q q =>
  h1 Bs po φ σ H n st _ p _ fun a1 n1 v1 H1 f1 p1 x1 i1 g1 =>
  h2 Bs po φ σ H1 n1 (st.af x1) _ p1 _ fun a2 n2 v2 H2 f2 p2 x2 i2 g2 =>
  h3 Bs po φ σ H2 n2 ((st.af x1).af x2) _ p2 _ fun a3 n3 v3 H3 f3 p3 x3 i3 g3 =>
  h4 Bs po φ σ H3 n3 (((st.af x1).af x2).af x3) _ p3 _ fun a4 n4 v4 H4 f4 p4 x4 i4 g4 =>
  h5 Bs po φ σ H4 n4 ((((st.af x1).af x2).af x3).af x4) _ p4 _ fun a5 n5 v5 H5 f5 p5 x5 i5 g5 =>
  h6 Bs po φ σ H5 n5 (((((st.af x1).af x2).af x3).af x4).af x5) _ p5 _ fun a6 n6 v6 H6 f6 p6 x6 i6 g6 =>
  h7 Bs po φ σ H6 n6 ((((((st.af x1).af x2).af x3).af x4).af x5).af x6) _ p6 _ fun a7 n7 v7 H7 f7 p7 x7 i7 g7 =>
  h8 Bs po φ σ H7 n7 (((((((st.af x1).af x2).af x3).af x4).af x5).af x6).af x7) _ p7 _ fun a8 n8 v8 H8 f8 p8 x8 i8 g8 =>
  ⟨_, _, _, _, _, _, _, _, _, _, _, _, _, _, _, _, _, _, _, _, _, _, _, _, rfl, ⟨(((((((i1.af g1.1 x2.fr).af g1.1 x3.fr).af g1.1 x4.fr).af g1.1 x5.fr).af g1.1 x6.fr).af g1.1 x7.fr).af g1.1 x8.fr), ((((((i2.af g2.1 x3.fr).af g2.1 x4.fr).af g2.1 x5.fr).af g2.1 x6.fr).af g2.1 x7.fr).af g2.1 x8.fr), (((((i3.af g3.1 x4.fr).af g3.1 x5.fr).af g3.1 x6.fr).af g3.1 x7.fr).af g3.1 x8.fr), ((((i4.af g4.1 x5.fr).af g4.1 x6.fr).af g4.1 x7.fr).af g4.1 x8.fr), (((i5.af g5.1 x6.fr).af g5.1 x7.fr).af g5.1 x8.fr), ((i6.af g6.1 x7.fr).af g6.1 x8.fr), (i7.af g7.1 x8.fr), i8⟩, ((((((((st.af x1).af x2).af x3).af x4).af x5).af x6).af x7).af x8).tabs, _, p8, fun r c v' H' fp pr af im nd hf => q r n8 v' H' fp pr (Af.trans (Af.trans (Af.trans (Af.trans (Af.trans (Af.trans (Af.trans (Af.trans x1 x2) x3) x4) x5) x6) x7) x8) ⟨Fr.weak af.fr, af.tabs, fun a e z => keep_pot af z⟩) im (Fp.back (Af.trans (Af.trans (Af.trans (Af.trans (Af.trans (Af.trans (Af.trans x1 x2) x3) x4) x5) x6) x7) x8).fr ⟨fun b hb => ((((((((st.af x1).af x2).af x3).af x4).af x5).af x6).af x7).af x8).fresh_pot (hf b hb), fun _ => ⟨nd, hf⟩⟩)⟩
def spP8 (K : PySem.W.Frag) (T : List (Addr × Str)) {α1 α2 α3 α4 α5 α6 α7 α8 R : Type} [Enc α1] [Enc α2] [Enc α3] [Enc α4] [Enc α5] [Enc α6] [Enc α7] [Enc α8] [Enc R] (f : α1 → α2 → α3 → α4 → α5 → α6 → α7 → α8 → M R) : Sp := fun vs H Q _ => ∃ (q : Addr) (n : Nat) (a1 : α1) (a2 : α2) (a3 : α3) (a4 : α4) (a5 : α5) (a6 : α6) (a7 : α7) (a8 : α8) (v1 v2 v3 v4 v5 v6 v7 v8 : V) (f1 f2 f3 f4 f5 f6 f7 f8 : List Addr), vs = [.ref q, v1, v2, v3, v4, v5, v6, v7, v8] ∧ (Im K H v1 (enc a1) f1 ∧ Im K H v2 (enc a2) f2 ∧ Im K H v3 (enc a3) f3 ∧ Im K H v4 (enc a4) f4 ∧ Im K H v5 (enc a5) f5 ∧ Im K H v6 (enc a6) f6 ∧ Im K H v7 (enc a7) f7 ∧ Im K H v8 (enc a8) f8 ∧ (∀ b ∈ f1, b ≠ q) ∧ (∀ b ∈ f2, b ≠ q) ∧ (∀ b ∈ f3, b ≠ q) ∧ (∀ b ∈ f4, b ≠ q) ∧ (∀ b ∈ f5, b ≠ q) ∧ (∀ b ∈ f6, b ≠ q) ∧ (∀ b ∈ f7, b ≠ q) ∧ (∀ b ∈ f8, b ≠ q)) ∧ Tabs T H ∧ Pot H q n ∧ ∃ P0 : R → Nat → Prop, f a1 a2 a3 a4 a5 a6 a7 a8 n P0 ∧ ∀ r n' v' H' fp, P0 r n' → Af K T (some q) H n H' n' → Im K H' v' (enc r) fp → fp.Nodup → (∀ b ∈ fp, b ≠ q ∧ Fsh H b) → Q v' H'
theorem spP8_len {α1 α2 α3 α4 α5 α6 α7 α8 R : Type} [Enc α1] [Enc α2] [Enc α3] [Enc α4] [Enc α5] [Enc α6] [Enc α7] [Enc α8] [Enc R] {f : α1 → α2 → α3 → α4 → α5 → α6 → α7 → α8 → M R} {vs : List V} {H : Hp} {Q : VK} {E : XK} (h : spP8 K T f vs H Q E) : vs.length = 9 := by
  obtain ⟨q, n, a1, a2, a3, a4, a5, a6, a7, a8, v1, v2, v3, v4, v5, v6, v7, v8, f1, f2, f3, f4, f5, f6, f7, f8, rfl, _⟩ := h
  rfl
theorem p8_run {α1 α2 α3 α4 α5 α6 α7 α8 R : Type} [Enc α1] [Enc α2] [Enc α3] [Enc α4] [Enc α5] [Enc α6] [Enc α7] [Enc α8] [Enc R] {B S : Type} {N : List Str} {s1 : α1 → Sl} (p1 : PSl K s1) {s2 : α2 → Sl} (p2 : PSl K s2) {s3 : α3 → Sl} (p3 : PSl K s3) {s4 : α4 → Sl} (p4 : PSl K s4) {s5 : α5 → Sl} (p5 : PSl K s5) {s6 : α6 → Sl} (p6 : PSl K s6) {s7 : α7 → Sl} (p7 : PSl K s7) {s8 : α8 → Sl} (p8 : PSl K s8) {ρ : α1 → α2 → α3 → α4 → α5 → α6 → α7 → α8 → List Sl} (e : ∀ a1 a2 a3 a4 a5 a6 a7 a8, [Sl.pot, s1 a1, s2 a2, s3 a3, s4 a4, s5 a5, s6 a6, s7 a7, s8 a8] ++ List.replicate (N.length - 9) Sl.any = ρ a1 a2 a3 a4 a5 a6 a7 a8) {t : TS} {mB : α1 → α2 → α3 → α4 → α5 → α6 → α7 → α8 → M (Ctl R B S)} {ρn : S → List Sl} {ρb : B → List Sl} {C : Option Addr → Prop} (hC : ∀ q, C (some q)) (hr : ∀ a1 a2 a3 a4 a5 a6 a7 a8, RB K T C t (ρ a1 a2 a3 a4 a5 a6 a7 a8) (mB a1 a2 a3 a4 a5 a6 a7 a8) ρn ρb)
    {vs : List V} {H : Hp} {Q : VK} {E : XK} (h : spP8 K T (fun a1 a2 a3 a4 a5 a6 a7 a8 => outW (mB a1 a2 a3 a4 a5 a6 a7 a8)) vs H Q E) : t { nx := fun _ H' => Q .non H', rt := Q } (L2.start N vs) H := by
  obtain ⟨q, n, a1, a2, a3, a4, a5, a6, a7, a8, v1, v2, v3, v4, v5, v6, v7, v8, f1, f2, f3, f4, f5, f6, f7, f8, rfl, ⟨i1, i2, i3, i4, i5, i6, i7, i8, j1, j2, j3, j4, j5, j6, j7, j8⟩, tb, pp, P0, h, hq⟩ := h
  refine end_pot (hr a1 a2 a3 a4 a5 a6 a7 a8) (hC q) rfl ⟨_, st_start (ss := [Sl.pot, s1 a1, s2 a2, s3 a3, s4 a4, s5 a5, s6 a6, s7 a7, s8 a8]) (fps := [[], f1, f2, f3, f4, f5, f6, f7, f8]) tb (fun b o z => ⟨z.1, z.2.1, fun w => z.2.2 (Option.some.inj w).symm⟩) (fun a z => by rw [← Option.some.inj z]; exact pp) rfl (fun i s hi => ?_) (fun i d hi => ?_) (e a1 a2 a3 a4 a5 a6 a7 a8)⟩ h hq
  · match i, hi with
    | 0, hi =>
      obtain rfl := Option.some.inj hi
      exact ⟨q, rfl, rfl⟩
    | 1, hi =>
      obtain rfl := Option.some.inj hi
      exact (p1 _ _ _ _ _ _ i1 (lists_bp i1 j1)).1
    | 2, hi =>
      obtain rfl := Option.some.inj hi
      exact (p2 _ _ _ _ _ _ i2 (lists_bp i2 j2)).1
    | 3, hi =>
      obtain rfl := Option.some.inj hi
      exact (p3 _ _ _ _ _ _ i3 (lists_bp i3 j3)).1
    | 4, hi =>
      obtain rfl := Option.some.inj hi
      exact (p4 _ _ _ _ _ _ i4 (lists_bp i4 j4)).1
    | 5, hi =>
      obtain rfl := Option.some.inj hi
      exact (p5 _ _ _ _ _ _ i5 (lists_bp i5 j5)).1
    | 6, hi =>
      obtain rfl := Option.some.inj hi
      exact (p6 _ _ _ _ _ _ i6 (lists_bp i6 j6)).1
    | 7, hi =>
      obtain rfl := Option.some.inj hi
      exact (p7 _ _ _ _ _ _ i7 (lists_bp i7 j7)).1
    | 8, hi =>
      obtain rfl := Option.some.inj hi
      exact (p8 _ _ _ _ _ _ i8 (lists_bp i8 j8)).1
    | i + 9, hi => cases hi
  · match i, hi with
    | 0, hi => cases hi
    | 1, hi => exact (p1 (fun b o => H b = some o ∧ (∀ ps, o ≠ .tbl ps) ∧ b ≠ q) (some q) H _ _ _ i1 (lists_bp i1 j1)).2 _ (Option.some.inj hi)
    | 2, hi => exact (p2 (fun b o => H b = some o ∧ (∀ ps, o ≠ .tbl ps) ∧ b ≠ q) (some q) H _ _ _ i2 (lists_bp i2 j2)).2 _ (Option.some.inj hi)
    | 3, hi => exact (p3 (fun b o => H b = some o ∧ (∀ ps, o ≠ .tbl ps) ∧ b ≠ q) (some q) H _ _ _ i3 (lists_bp i3 j3)).2 _ (Option.some.inj hi)
    | 4, hi => exact (p4 (fun b o => H b = some o ∧ (∀ ps, o ≠ .tbl ps) ∧ b ≠ q) (some q) H _ _ _ i4 (lists_bp i4 j4)).2 _ (Option.some.inj hi)
    | 5, hi => exact (p5 (fun b o => H b = some o ∧ (∀ ps, o ≠ .tbl ps) ∧ b ≠ q) (some q) H _ _ _ i5 (lists_bp i5 j5)).2 _ (Option.some.inj hi)
    | 6, hi => exact (p6 (fun b o => H b = some o ∧ (∀ ps, o ≠ .tbl ps) ∧ b ≠ q) (some q) H _ _ _ i6 (lists_bp i6 j6)).2 _ (Option.some.inj hi)
    | 7, hi => exact (p7 (fun b o => H b = some o ∧ (∀ ps, o ≠ .tbl ps) ∧ b ≠ q) (some q) H _ _ _ i7 (lists_bp i7 j7)).2 _ (Option.some.inj hi)
    | 8, hi => exact (p8 (fun b o => H b = some o ∧ (∀ ps, o ≠ .tbl ps) ∧ b ≠ q) (some q) H _ _ _ i8 (lists_bp i8 j8)).2 _ (Option.some.inj hi)
    | i + 9, hi => cases hi
theorem re_callp8 {α1 α2 α3 α4 α5 α6 α7 α8 R : Type} [Enc α1] [Enc α2] [Enc α3] [Enc α4] [Enc α5] [Enc α6] [Enc α7] [Enc α8] [Enc R] {f : α1 → α2 → α3 → α4 → α5 → α6 → α7 → α8 → M R} {E : XK} {ip : Nat} (hpot : ρ[ip]? = some .pot) {t1 : TE} {m1 : M α1} {b1 : Bool} (h1 : RE K T t1 ρ b1 m1) {t2 : TE} {m2 : M α2} {b2 : Bool} (h2 : RE K T t2 ρ b2 m2) {t3 : TE} {m3 : M α3} {b3 : Bool} (h3 : RE K T t3 ρ b3 m3) {t4 : TE} {m4 : M α4} {b4 : Bool} (h4 : RE K T t4 ρ b4 m4) {t5 : TE} {m5 : M α5} {b5 : Bool} (h5 : RE K T t5 ρ b5 m5) {t6 : TE} {m6 : M α6} {b6 : Bool} (h6 : RE K T t6 ρ b6 m6) {t7 : TE} {m7 : M α7} {b7 : Bool} (h7 : RE K T t7 ρ b7 m7) {t8 : TE} {m8 : M α8} {b8 : Bool} (h8 : RE K T t8 ρ b8 m8) : RE K T (tCall (spP8 K T f) [] E (tCons (tVar ip) (tCons t1 (tCons t2 (tCons t3 (tCons t4 (tCons t5 (tCons t6 (tCons t7 (tCons t8 tNil)))))))))) ρ true (c8W m1 m2 m3 m4 m5 m6 m7 m8 f) := fun Bs po φ σ H n st P p Q q =>
  let ⟨u, e1, e2⟩ := st.sl ip _ hpot
  ⟨_, e2,
  h1 Bs po φ σ H n st _ p _ fun a1 n1 v1 H1 f1 p1 x1 i1 g1 =>
  h2 Bs po φ σ H1 n1 (st.af x1) _ p1 _ fun a2 n2 v2 H2 f2 p2 x2 i2 g2 =>
  h3 Bs po φ σ H2 n2 ((st.af x1).af x2) _ p2 _ fun a3 n3 v3 H3 f3 p3 x3 i3 g3 =>
  h4 Bs po φ σ H3 n3 (((st.af x1).af x2).af x3) _ p3 _ fun a4 n4 v4 H4 f4 p4 x4 i4 g4 =>
  h5 Bs po φ σ H4 n4 ((((st.af x1).af x2).af x3).af x4) _ p4 _ fun a5 n5 v5 H5 f5 p5 x5 i5 g5 =>
  h6 Bs po φ σ H5 n5 (((((st.af x1).af x2).af x3).af x4).af x5) _ p5 _ fun a6 n6 v6 H6 f6 p6 x6 i6 g6 =>
  h7 Bs po φ σ H6 n6 ((((((st.af x1).af x2).af x3).af x4).af x5).af x6) _ p6 _ fun a7 n7 v7 H7 f7 p7 x7 i7 g7 =>
  h8 Bs po φ σ H7 n7 (((((((st.af x1).af x2).af x3).af x4).af x5).af x6).af x7) _ p7 _ fun a8 n8 v8 H8 f8 p8 x8 i8 g8 =>
  ⟨u, n8, _, _, _, _, _, _, _, _, _, _, _, _, _, _, _, _, _, _, _, _, _, _, _, _, rfl, ⟨(((((((i1.af g1.1 x2.fr).af g1.1 x3.fr).af g1.1 x4.fr).af g1.1 x5.fr).af g1.1 x6.fr).af g1.1 x7.fr).af g1.1 x8.fr), ((((((i2.af g2.1 x3.fr).af g2.1 x4.fr).af g2.1 x5.fr).af g2.1 x6.fr).af g2.1 x7.fr).af g2.1 x8.fr), (((((i3.af g3.1 x4.fr).af g3.1 x5.fr).af g3.1 x6.fr).af g3.1 x7.fr).af g3.1 x8.fr), ((((i4.af g4.1 x5.fr).af g4.1 x6.fr).af g4.1 x7.fr).af g4.1 x8.fr), (((i5.af g5.1 x6.fr).af g5.1 x7.fr).af g5.1 x8.fr), ((i6.af g6.1 x7.fr).af g6.1 x8.fr), (i7.af g7.1 x8.fr), i8, fun b hb z => g1.1 b hb (by rw [z]; exact e1), fun b hb z => g2.1 b hb (by rw [z]; exact e1), fun b hb z => g3.1 b hb (by rw [z]; exact e1), fun b hb z => g4.1 b hb (by rw [z]; exact e1), fun b hb z => g5.1 b hb (by rw [z]; exact e1), fun b hb z => g6.1 b hb (by rw [z]; exact e1), fun b hb z => g7.1 b hb (by rw [z]; exact e1), fun b hb z => g8.1 b hb (by rw [z]; exact e1)⟩, ((((((((st.af x1).af x2).af x3).af x4).af x5).af x6).af x7).af x8).tabs, ((((((((st.af x1).af x2).af x3).af x4).af x5).af x6).af x7).af x8).pot u e1, _, p8, fun r c v' H' fp pr af im nd hf => q r c v' H' fp pr (Af.trans (Af.trans (Af.trans (Af.trans (Af.trans (Af.trans (Af.trans (Af.trans x1 x2) x3) x4) x5) x6) x7) x8) (by rw [e1]; exact af)) im (Fp.back (Af.trans (Af.trans (Af.trans (Af.trans (Af.trans (Af.trans (Af.trans x1 x2) x3) x4) x5) x6) x7) x8).fr ⟨fun b hb => by rw [e1]; exact fun z => (hf b hb).1 (Option.some.inj z).symm, fun _ => ⟨nd, fun b hb => (hf b hb).2⟩⟩)⟩⟩
end
end Bf
namespace Bf
open PySem PySem.Spec PyProof.Rows L2 LamX NdefX
/-! ### who is between -/
def Bt (q d j e : Nat) : Prop := ∃ i, 1 ≤ i ∧ i < (cl q d j).length ∧ wf 0 ((cl q d j).take i) = e
def OnW (q d e j : Nat) : Prop := e.testBit j = true ∧ ∀ x y, x < q → e.testBit y = true → ar q j x ≤ ar q j y → x ≠ j → e.testBit x = d.testBit x
theorem tp_mem {q d j x : Nat} (hj : j < q) : x ∈ tp q d j (q - 1) ↔ x < q ∧ x ≠ j ∧ d.testBit x = true := by
  unfold tp
  rw [List.mem_filter, List.mem_map]
  constructor
  · rintro ⟨⟨i, hi, rfl⟩, hb⟩
    have hi := List.mem_range.mp hi
    refine ⟨Nat.mod_lt _ (by omega), fun e => ?_, hb⟩
    have h1 := ar_at (q := q) (i := 1 + i) j (by omega)
    rw [e, ar_self] at h1
    omega
  · rintro ⟨hx, hne, hb⟩
    obtain ⟨i, hi, e⟩ := at_of j hx
    have h0 : i ≠ 0 := fun z => hne (by rw [← e, z, Nat.add_zero, Nat.mod_eq_of_lt hj])
    exact ⟨⟨i - 1, List.mem_range.mpr (by omega), by rw [show 1 + (i - 1) = i by omega]; exact e⟩, hb⟩
theorem tp_sorted {q d j : Nat} (hj : j < q) : (tp q d j (q - 1)).Pairwise (fun a b => ar q j a < ar q j b) := by
  have h := rb_sorted q d j
  rw [rb_split hj] at h
  exact (List.pairwise_append.mp h).2.1
theorem cut_sorted {α : Type} {key : α → Int} {P : α → Bool} : ∀ {l : List α}, l.Pairwise (fun a b => key a < key b) → (∀ x y, x ∈ l → y ∈ l → key x < key y → P y = true → P x = true) → l.filter P = l.take (l.filter P).length
  | [], _, _ => rfl
  | a :: l, hs, hc => by
    obtain ⟨h1, h2⟩ := List.pairwise_cons.mp hs
    have ih := cut_sorted (P := P) h2 fun x y hx hy => hc x y (List.mem_cons_of_mem _ hx) (List.mem_cons_of_mem _ hy)
    cases e : P a with
    | true =>
      rw [List.filter_cons_of_pos e, List.length_cons, List.take_succ_cons, ← ih]
    | false =>
      have hn : l.filter P = [] := List.filter_eq_nil_iff.mpr fun y hy z => by
        have := hc a y List.mem_cons_self (List.mem_cons_of_mem _ hy) (h1 y hy) z
        rw [e] at this
        cases this
      rw [List.filter_cons_of_neg (by rw [e]; decide), hn]
      rfl
theorem take_nodup {q d j i : Nat} (hj : j < q) : (j :: (tp q d j (q - 1)).take i).Nodup := by
  refine List.nodup_cons.mpr ⟨fun h => ?_, ?_⟩
  · exact ((tp_mem hj).mp (List.mem_of_mem_take h)).2.1 rfl
  · exact ((tp_sorted hj).imp fun {a b} h e => by rw [e] at h; omega).sublist (List.take_sublist _ _)
theorem cl_take {q d j i : Nat} (hi : i ≤ (tp q d j (q - 1)).length) : (cl q d j).take (i + 1) = j :: (tp q d j (q - 1)).take i := by
  unfold cl
  rw [List.cons_append, List.take_succ_cons, List.take_append_of_le_length hi]
theorem bt_iff {q d j e : Nat} (hj : j < q) (hd : d < 2 ^ q) (he : e < 2 ^ q) : Bt q d j e ↔ OnW q d e j ∧ e ≠ d := by
  constructor
  · rintro ⟨i, h1, h2, rfl⟩
    have hi : i - 1 ≤ (tp q d j (q - 1)).length := by
      unfold cl at h2
      rw [List.length_append, List.length_cons] at h2
      split at h2
      · have : i < (tp q d j (q - 1)).length + 1 + 0 := h2
        omega
      · have : i < (tp q d j (q - 1)).length + 1 + 1 := h2
        omega
    have ei : i = i - 1 + 1 := by omega
    have ec : (cl q d j).take i = j :: (tp q d j (q - 1)).take (i - 1) := by
      rw [ei]
      exact cl_take hi
    have hb : ∀ x, (wf 0 ((cl q d j).take i)).testBit x = decide (x ∈ j :: (tp q d j (q - 1)).take (i - 1)) := fun x => by
      rw [ec]
      exact wf_bit (take_nodup hj)
    refine ⟨⟨by rw [hb]; exact decide_eq_true List.mem_cons_self, fun x y hx hy hxy hne => ?_⟩, fun e => ?_⟩
    · rw [hb]
      rw [hb] at hy
      have hy := of_decide_eq_true hy
      cases b : d.testBit x with
      | false =>
        refine decide_eq_false fun h => ?_
        rcases List.mem_cons.mp h with h | h
        · exact hne h
        · have := ((tp_mem hj).mp (List.mem_of_mem_take h)).2.2
          rw [b] at this
          cases this
      | true =>
        refine decide_eq_true (List.mem_cons_of_mem _ ?_)
        have hmx := (tp_mem hj).mpr ⟨hx, hne, b⟩
        have hyy : y ∈ (tp q d j (q - 1)).take (i - 1) := by
          rcases List.mem_cons.mp hy with h | h
          · exfalso
            rw [h, ar_self] at hxy
            have h0 := ar_nn (q := q) (j := j) (x := x) (by omega)
            exact hne (ar_inj (j := j) hx hj (by rw [ar_self]; omega))
          · exact h
        have hs := tp_sorted (d := d) hj
        rw [← List.take_append_drop (i - 1) (tp q d j (q - 1))] at hmx hs
        rcases List.mem_append.mp hmx with h | h
        · exact h
        · have := (List.pairwise_append.mp hs).2.2 y hyy x h
          omega
    · by_cases b : d.testBit j = true
      · have hlen : (cl q d j).length = (tp q d j (q - 1)).length + 1 := by
          unfold cl
          rw [List.length_append, List.length_cons, if_pos b]
          rfl
        have hlt : i - 1 < (tp q d j (q - 1)).length := by omega
        have hm : (tp q d j (q - 1))[i - 1] ∈ tp q d j (q - 1) := List.getElem_mem hlt
        obtain ⟨m1, m2, m3⟩ := (tp_mem hj).mp hm
        have hbx := hb (tp q d j (q - 1))[i - 1]
        rw [e, m3] at hbx
        have hin := of_decide_eq_true hbx.symm
        rcases List.mem_cons.mp hin with h | h
        · exact m2 h
        · obtain ⟨k, hk, ek⟩ := List.mem_iff_getElem.mp h
          rw [List.length_take] at hk
          rw [List.getElem_take] at ek
          have hs := List.pairwise_iff_getElem.mp (tp_sorted (d := d) hj) k (i - 1) (by omega) hlt (by omega)
          rw [ek] at hs
          omega
      · have := hb j
        rw [e] at this
        rw [decide_eq_true List.mem_cons_self] at this
        exact b this
  · rintro ⟨⟨hj1, hc⟩, hne⟩
    have hcut := cut_sorted (P := fun x => e.testBit x) (tp_sorted (d := d) hj) fun x y hx hy hk hP => by
      obtain ⟨x1, x2, x3⟩ := (tp_mem hj).mp hx
      have := hc x y x1 hP (by omega) x2
      rw [this]
      exact x3
    have hle : ((tp q d j (q - 1)).filter fun x => e.testBit x).length ≤ (tp q d j (q - 1)).length := List.length_filter_le _ _
    generalize hn : ((tp q d j (q - 1)).filter fun x => e.testBit x).length = n at hcut hle
    have hbits : wf 0 (j :: (tp q d j (q - 1)).take n) = e := by
      refine Nat.eq_of_testBit_eq fun x => ?_
      rw [wf_bit (take_nodup hj), ← hcut]
      cases b : e.testBit x with
      | true =>
        refine decide_eq_true ?_
        by_cases ex : x = j
        · rw [ex]
          exact List.mem_cons_self
        · have hx := lt_of_bit he b
          have := hc x x hx b (Int.le_refl _) ex
          exact List.mem_cons_of_mem _ (List.mem_filter.mpr ⟨(tp_mem hj).mpr ⟨hx, ex, by rw [← this]; exact b⟩, b⟩)
      | false =>
        refine decide_eq_false fun h => ?_
        rcases List.mem_cons.mp h with h | h
        · rw [h, hj1] at b
          cases b
        · have := (List.mem_filter.mp h).2
          rw [b] at this
          cases this
    refine ⟨n + 1, by omega, ?_, by rw [cl_take hle]; exact hbits⟩
    unfold cl
    rw [List.length_append, List.length_cons]
    by_cases b : d.testBit j = true
    · rw [if_pos b]
      show n + 1 < (tp q d j (q - 1)).length + 1 + 0
      refine Classical.byContradiction fun z => hne ?_
      have en : n = (tp q d j (q - 1)).length := by omega
      rw [en, List.take_length] at hbits
      rw [← hbits]
      have h2 := wf_cl (q := q) (d := d) (j := j) hj hd 0
      have ecl : cl q d j = j :: tp q d j (q - 1) := by
        unfold cl
        rw [if_pos b, List.append_nil]
      rw [ecl, Nat.zero_xor] at h2
      exact h2
    · rw [if_neg b]
      show n + 1 < (tp q d j (q - 1)).length + 1 + 1
      omega
end Bf
namespace Bf
open PySem PySem.Spec PyProof.Rows L2 LamX NdefX
/-! ### the tree through a hand -/
def trn (q e j : Nat) : Nat := (e >>> j) ||| ((e &&& (2 ^ j - 1)) <<< (q - j))
theorem trn_bit {q e j k : Nat} (hj : j < q) (he : e < 2 ^ q) : (trn q e j).testBit k = (decide (k < q) && e.testBit ((k + j) % q)) := by
  unfold trn
  rw [Nat.testBit_or, Nat.testBit_shiftRight, Nat.testBit_shiftLeft, Nat.testBit_and, Nat.testBit_two_pow_sub_one]
  have hbig : ∀ x, q ≤ x → e.testBit x = false := fun x hx => Nat.testBit_lt_two_pow (Nat.lt_of_lt_of_le he (Nat.pow_le_pow_right (by decide) hx))
  by_cases hk : k < q
  · rw [decide_eq_true hk, Bool.true_and]
    by_cases h1 : k + j < q
    · rw [Nat.mod_eq_of_lt h1, decide_eq_false (show ¬ k ≥ q - j by omega), Bool.false_and, Bool.or_false, Nat.add_comm]
    · have e1 : (k + j) % q = k - (q - j) := by
        rw [Nat.mod_eq_sub_mod (by omega), Nat.mod_eq_of_lt (by omega)]
        omega
      rw [e1, hbig (j + k) (by omega), Bool.false_or, decide_eq_true (show k ≥ q - j by omega), Bool.true_and, decide_eq_true (show k - (q - j) < j by omega), Bool.and_true]
  · rw [decide_eq_false hk, Bool.false_and, hbig (j + k) (by omega), Bool.false_or]
    by_cases h1 : k - (q - j) < j
    · omega
    · rw [decide_eq_false h1, Bool.and_false, Bool.and_false]
def lnF (n : Nat) : Nat := if n = 0 then 0 else n.log2 + 1
theorem ln_bit {n k : Nat} (h : n.testBit k = true) : k < lnF n := by
  have h0 : n ≠ 0 := fun e => by rw [e, Nat.zero_testBit] at h; cases h
  unfold lnF
  rw [if_neg h0]
  have := Nat.ge_two_pow_of_testBit h
  have := (Nat.le_log2 h0).mpr this
  omega
theorem ln_top {n : Nat} (h0 : n ≠ 0) : n.testBit (lnF n - 1) = true := by
  unfold lnF
  rw [if_neg h0, Nat.add_sub_cancel]
  exact Nat.testBit_log2 h0
def iwF (q d e j : Nat) : Bool := decide (trn q e j &&& 1 = 1) && decide ((trn q e j ^^^ trn q d j) &&& (2 ^ lnF (trn q e j) - 1) ≤ 1)
theorem le_one {n : Nat} : n ≤ 1 ↔ ∀ k, 1 ≤ k → n.testBit k = false := by
  constructor
  · intro h k hk
    refine Nat.testBit_lt_two_pow (Nat.lt_of_le_of_lt h ?_)
    exact Nat.lt_of_lt_of_le (by decide : 1 < 2 ^ 1) (Nat.pow_le_pow_right (by decide) hk)
  · intro h
    refine Classical.byContradiction fun z => ?_
    have hn : n ≠ 0 := by omega
    have h1 := Nat.testBit_log2 hn
    have h2 : 1 ≤ n.log2 := (Nat.le_log2 hn).mpr (by show 2 ^ 1 ≤ n; omega)
    rw [h _ h2] at h1
    cases h1
theorem and_one {n : Nat} : n &&& 1 = 1 ↔ n.testBit 0 = true := by
  rw [Nat.and_one_is_mod, Nat.testBit_zero]
  exact ⟨fun h => decide_eq_true h, fun h => of_decide_eq_true h⟩
theorem iw_iff {q d e j : Nat} (hj : j < q) (hd : d < 2 ^ q) (he : e < 2 ^ q) : iwF q d e j = true ↔ OnW q d e j := by
  have hq : 0 < q := by omega
  unfold iwF
  rw [Bool.and_eq_true, decide_eq_true_eq, decide_eq_true_eq, and_one, le_one]
  have b0 : (trn q e j).testBit 0 = e.testBit j := by
    rw [trn_bit hj he, decide_eq_true hq, Bool.true_and, Nat.zero_add, Nat.mod_eq_of_lt hj]
  rw [b0]
  have hat : ∀ k, k < q → ar q j ((k + j) % q) = (k : Int) := fun k hk => by
    rw [Nat.add_comm]
    exact ar_at j hk
  constructor
  · rintro ⟨h1, h2⟩
    refine ⟨h1, fun x y hx hy hxy hne => ?_⟩
    obtain ⟨k, hk, ek⟩ := at_of j hx
    have hyq := lt_of_bit he hy
    obtain ⟨l, hl, el⟩ := at_of j hyq
    rw [Nat.add_comm] at ek el
    have hkl : k ≤ l := by
      have a1 := hat k hk
      have a2 := hat l hl
      rw [ek] at a1
      rw [el] at a2
      omega
    have hk1 : 1 ≤ k := by
      refine Nat.pos_of_ne_zero fun z => hne ?_
      rw [← ek, z, Nat.zero_add, Nat.mod_eq_of_lt hj]
    have hb := h2 k hk1
    have hlen : k < lnF (trn q e j) := by
      have : (trn q e j).testBit l = true := by rw [trn_bit hj he, decide_eq_true hl, Bool.true_and, el]; exact hy
      have := ln_bit this
      omega
    rw [Nat.testBit_and, Nat.testBit_xor, Nat.testBit_two_pow_sub_one, decide_eq_true hlen, Bool.and_true, trn_bit hj he, trn_bit hj hd, decide_eq_true hk, Bool.true_and, Bool.true_and, ek] at hb
    cases h3 : e.testBit x <;> cases h4 : d.testBit x <;> rw [h3, h4] at hb <;> first | rfl | cases hb
  · rintro ⟨h1, h2⟩
    refine ⟨h1, fun k hk => ?_⟩
    rw [Nat.testBit_and, Nat.testBit_xor, Nat.testBit_two_pow_sub_one]
    by_cases hlen : k < lnF (trn q e j)
    · have hne : trn q e j ≠ 0 := fun z => by
        rw [z] at hlen
        exact absurd hlen (by show ¬ k < 0; omega)
      have ht := ln_top hne
      have htq : lnF (trn q e j) - 1 < q := by
        rw [trn_bit hj he] at ht
        exact of_decide_eq_true (Bool.and_eq_true_iff.mp ht).1
      rw [trn_bit hj he, decide_eq_true htq, Bool.true_and] at ht
      have hkq : k < q := by omega
      have hxy := h2 ((k + j) % q) ((lnF (trn q e j) - 1 + j) % q) (Nat.mod_lt _ hq) ht (by rw [hat k hkq, hat _ htq]; omega) (fun z => by
        have := hat k hkq
        rw [z, ar_self] at this
        omega)
      rw [trn_bit hj he, trn_bit hj hd, decide_eq_true hkq, Bool.true_and, Bool.true_and, hxy, Bool.xor_self, Bool.false_and]
    · rw [decide_eq_false hlen, Bool.and_false]
/-- the least bit -/
def fpF (n : Nat) : Nat := (((List.range (lnF n)).filter fun k => n.testBit k).head?).getD 0
theorem fp_is {n : Nat} (h0 : n ≠ 0) : n.testBit (fpF n) = true ∧ ∀ k, n.testBit k = true → fpF n ≤ k := by
  unfold fpF
  have hm : lnF n - 1 ∈ (List.range (lnF n)).filter fun k => n.testBit k := List.mem_filter.mpr ⟨List.mem_range.mpr (by have := ln_bit (ln_top h0); omega), ln_top h0⟩
  have hs : ((List.range (lnF n)).filter fun k => n.testBit k).Pairwise (· < ·) := List.Pairwise.filter _ List.pairwise_lt_range
  cases e : (List.range (lnF n)).filter fun k => n.testBit k with
  | nil => rw [e] at hm; exact absurd hm List.not_mem_nil
  | cons a l =>
    have ha : a ∈ (List.range (lnF n)).filter fun k => n.testBit k := by rw [e]; exact List.mem_cons_self
    refine ⟨(List.mem_filter.mp ha).2, fun k hk => ?_⟩
    have hk2 : k ∈ (List.range (lnF n)).filter fun k => n.testBit k := List.mem_filter.mpr ⟨List.mem_range.mpr (ln_bit hk), hk⟩
    rw [e] at hk2 hs
    show a ≤ k
    rcases List.mem_cons.mp hk2 with h | h
    · omega
    · have := (List.pairwise_cons.mp hs).1 k h
      omega
def otF (q d e : Nat) : Option Nat := if e ^^^ (d &&& e) ≠ 0 then some (lnF (e ^^^ (d &&& e)) - 1) else if e = 0 ∨ d ^^^ (d &&& e) = 0 then none
  else some ((lnF (d ^^^ (d &&& e)) - 1 + fpF (trn q e (lnF (d ^^^ (d &&& e)) - 1))) % q)
def thF (q d e : Nat) : Option Nat := match otF q d e with
  | none => none
  | some j => if iwF q d e j = true then some j else none
theorem bey_bit {d e x : Nat} : (e ^^^ (d &&& e)).testBit x = (e.testBit x && !d.testBit x) := by
  rw [Nat.testBit_xor, Nat.testBit_and]
  cases e.testBit x <;> cases d.testBit x <;> rfl
theorem lac_bit {d e x : Nat} : (d ^^^ (d &&& e)).testBit x = (d.testBit x && !e.testBit x) := by
  rw [Nat.testBit_xor, Nat.testBit_and]
  cases e.testBit x <;> cases d.testBit x <;> rfl
theorem ot_lt {q d e j : Nat} (hq : 0 < q) (he : e < 2 ^ q) (h : otF q d e = some j) : j < q ∧ e ≠ d := by
  unfold otF at h
  by_cases b : e ^^^ (d &&& e) ≠ 0
  · rw [if_pos b] at h
    have h := Option.some.inj h
    have ht := ln_top b
    rw [h, bey_bit] at ht
    obtain ⟨h1, h2⟩ := Bool.and_eq_true_iff.mp ht
    refine ⟨lt_of_bit he h1, fun z => ?_⟩
    rw [z] at h1
    rw [h1] at h2
    cases h2
  · rw [if_neg b] at h
    by_cases c : e = 0 ∨ d ^^^ (d &&& e) = 0
    · rw [if_pos c] at h
      cases h
    · rw [if_neg c] at h
      have h := Option.some.inj h
      refine ⟨by rw [← h]; exact Nat.mod_lt _ hq, fun z => c (.inr ?_)⟩
      rw [z, Nat.and_self, Nat.xor_self]
theorem ot_is {q d e j : Nat} (hj : j < q) (hd : d < 2 ^ q) (he : e < 2 ^ q) (ho : OnW q d e j) (hne : e ≠ d) : otF q d e = some j := by
  have hq : 0 < q := by omega
  obtain ⟨h1, h2⟩ := ho
  have sub : ∀ x, e.testBit x = true → x ≠ j → d.testBit x = true := fun x hx hn => by
    rw [← h2 x x (lt_of_bit he hx) hx (Int.le_refl _) hn]
    exact hx
  unfold otF
  by_cases b : e ^^^ (d &&& e) ≠ 0
  · rw [if_pos b]
    have ht := ln_top b
    rw [bey_bit] at ht
    obtain ⟨a1, a2⟩ := Bool.and_eq_true_iff.mp ht
    congr 1
    refine Classical.byContradiction fun z => ?_
    rw [sub _ a1 z] at a2
    cases a2
  · have b : e ^^^ (d &&& e) = 0 := Classical.byContradiction b
    rw [if_neg (fun z => z b)]
    have hjd : d.testBit j = true := by
      have : (e ^^^ (d &&& e)).testBit j = false := by rw [b, Nat.zero_testBit]
      rw [bey_bit, h1] at this
      cases h3 : d.testBit j with
      | true => rfl
      | false => rw [h3] at this; cases this
    have all : ∀ x, e.testBit x = true → d.testBit x = true := fun x hx => by
      by_cases z : x = j
      · rw [z]
        exact hjd
      · exact sub x hx z
    have hl : d ^^^ (d &&& e) ≠ 0 := fun z => hne (Nat.eq_of_testBit_eq fun x => by
      have hx : (d ^^^ (d &&& e)).testBit x = false := by rw [z, Nat.zero_testBit]
      rw [lac_bit] at hx
      cases h3 : e.testBit x with
      | true => exact (all x h3).symm
      | false =>
        rw [h3] at hx
        cases h4 : d.testBit x with
        | false => rfl
        | true => rw [h4] at hx; cases hx)
    have he0 : e ≠ 0 := fun z => by rw [z, Nat.zero_testBit] at h1; cases h1
    rw [if_neg (fun z => z.elim he0 hl)]
    have hg := ln_top hl
    generalize lnF (d ^^^ (d &&& e)) - 1 = g at hg
    rw [lac_bit] at hg
    obtain ⟨g1, g2⟩ := Bool.and_eq_true_iff.mp hg
    have hgq := lt_of_bit hd g1
    have hge : e.testBit g = false := by
      cases h3 : e.testBit g with
      | false => rfl
      | true => rw [h3] at g2; cases g2
    -- all of e lies nearer than g
    have near : ∀ y, e.testBit y = true → ar q j y < ar q j g := fun y hy => by
      refine Classical.byContradiction fun z => ?_
      have hgj : g ≠ j := fun w => by rw [w, h1] at hge; cases hge
      have := h2 g y hgq hy (by omega) hgj
      rw [hge, g1] at this
      cases this
    have hn0 : trn q e g ≠ 0 := fun z => by
      obtain ⟨k, hk, ek⟩ := at_of g hj
      have : (trn q e g).testBit k = true := by rw [trn_bit hgq he, decide_eq_true hk, Bool.true_and, Nat.add_comm, ek]; exact h1
      rw [z, Nat.zero_testBit] at this
      cases this
    obtain ⟨f1, f2⟩ := fp_is hn0
    have fq : fpF (trn q e g) < q := by
      rw [trn_bit hgq he] at f1
      exact of_decide_eq_true (Bool.and_eq_true_iff.mp f1).1
    rw [trn_bit hgq he, decide_eq_true fq, Bool.true_and] at f1
    obtain ⟨k, hk, ek⟩ := at_of g hj
    have hkj : (trn q e g).testBit k = true := by rw [trn_bit hgq he, decide_eq_true hk, Bool.true_and, Nat.add_comm, ek]; exact h1
    have hle := f2 k hkj
    generalize fpF (trn q e g) = m at f1 f2 fq hle
    congr 1
    rw [Nat.add_comm m g] at f1
    -- the first of e behind g is j
    refine Classical.byContradiction fun z => ?_
    have n1 := near _ f1
    have hmk : m < k := by
      refine Nat.lt_of_le_of_ne hle fun w => z ?_
      rw [w]
      exact ek
    have a1 := ar_at (q := q) (i := k) g hk
    rw [ek] at a1
    have a2 := ar_at (q := q) (i := m) g fq
    -- arcs from j
    have e1 : ar q j g = (q : Int) - k ∨ k = 0 := by
      by_cases k0 : k = 0
      · exact .inr k0
      · refine .inl ?_
        have : ar q ((g + k) % q) ((g + k + (q - k)) % q) = ((q - k : Nat) : Int) := by
          have := ar_at (q := q) (i := q - k) ((g + k) % q) (by omega)
          rw [Nat.mod_add_mod] at this
          exact this
        rw [ek, show g + k + (q - k) = g + q by omega, Nat.add_mod_right, Nat.mod_eq_of_lt hgq] at this
        omega
    have e2 : ar q j ((g + m) % q) = (q : Int) - k + m := by
      have hkm : k - m ≤ q := by omega
      have : ar q ((g + k) % q) ((g + k + (q - (k - m))) % q) = ((q - (k - m) : Nat) : Int) := by
        have := ar_at (q := q) (i := q - (k - m)) ((g + k) % q) (by omega)
        rw [Nat.mod_add_mod] at this
        exact this
      rw [ek, show g + k + (q - (k - m)) = g + m + q by omega, Nat.add_mod_right] at this
      rw [this]
      omega
    rcases e1 with e1 | e1
    · rw [e2, e1] at n1
      omega
    · omega
theorem th_iff {q d e j : Nat} (hq : 0 < q) (hd : d < 2 ^ q) (he : e < 2 ^ q) : thF q d e = some j ↔ j < q ∧ Bt q d j e := by
  unfold thF
  constructor
  · intro h
    cases z : otF q d e with
    | none => rw [z] at h; cases h
    | some k =>
      rw [z] at h
      obtain ⟨hk, hne⟩ := ot_lt hq he z
      have h : (if iwF q d e k = true then some k else none) = some j := h
      by_cases c : iwF q d e k = true
      · rw [if_pos c] at h
        have h := Option.some.inj h
        subst h
        exact ⟨hk, (bt_iff hk hd he).mpr ⟨(iw_iff hk hd he).mp c, hne⟩⟩
      · rw [if_neg c] at h
        cases h
  · rintro ⟨hj, hb⟩
    obtain ⟨ho, hne⟩ := (bt_iff hj hd he).mp hb
    rw [ot_is hj hd he ho hne]
    show (if iwF q d e j = true then some j else none) = some j
    rw [if_pos ((iw_iff hj hd he).mpr ho)]
end Bf
namespace Bf
open PySem PySem.Spec PyProof.Rows L2 LamX NdefX
theorem op_andN {X : Cx} : OpR X (binaryOp .BitAnd) (fun x y H Q => ∃ n m : Nat, x = .int (n : Int) ∧ y = .int (m : Int) ∧ Q (.int ((n &&& m : Nat) : Int)) H) := by
  intro pins s σ H x y v u Q I rx ry h
  obtain ⟨n, m, rfl, rfl, q⟩ := h
  refine op_and pins s σ H _ _ v u Q I rx ry ⟨(n : Int), (m : Int), rfl, rfl, ?_⟩
  show Q (.int (Builtin.bitAnd (n : Int) (m : Int))) H
  unfold Builtin.bitAnd
  rw [decide_eq_true (Int.natCast_nonneg n), decide_eq_true (Int.natCast_nonneg m)]
  exact q
theorem op_shlN {X : Cx} : OpR X (binaryOp .LShift) (fun x y H Q => ∃ n k : Nat, x = .int (n : Int) ∧ y = .int (k : Int) ∧ n < 2 ^ 64 ∧ k ≤ 1000000 ∧ Q (.int ((n <<< k : Nat) : Int)) H) := by
  intro pins s σ H x y v u Q I rx ry h
  obtain ⟨n, k, rfl, rfl, hn, hk, q⟩ := h
  refine op_shl pins s σ H _ _ v u Q I rx ry ⟨(n : Int), (k : Int), rfl, rfl, ⟨by omega, by omega, by simpa using hn⟩, ?_⟩
  rw [Nat.shiftLeft_eq] at q
  show Q (.int ((n : Int) * 2 ^ (k : Int).toNat)) H
  rw [Int.toNat_natCast]
  have e : ((n * 2 ^ k : Nat) : Int) = (n : Int) * 2 ^ k := by rw [Int.natCast_mul, Int.natCast_pow]; rfl
  rw [e] at q
  exact q
theorem low_eq {n : Nat} (h0 : n ≠ 0) : n - (n &&& (n - 1)) = 2 ^ fpF n := by
  obtain ⟨h1, h2⟩ := fp_is h0
  generalize fpF n = k at h1 h2
  -- n = 2 ^ (k + 1) * a + 2 ^ k
  have hb : n % 2 ^ (k + 1) = 2 ^ k := by
    refine Nat.eq_of_testBit_eq fun x => ?_
    rw [Nat.testBit_mod_two_pow, Nat.testBit_two_pow]
    by_cases hx : k = x
    · subst hx
      rw [decide_eq_true (Nat.lt_succ_self k), h1, decide_eq_true rfl]
      rfl
    · rw [decide_eq_false hx]
      by_cases hl : x < k + 1
      · rw [decide_eq_true hl, Bool.true_and]
        cases b : n.testBit x with
        | false => rfl
        | true => have := h2 x b; omega
      · rw [decide_eq_false hl, Bool.false_and]
  have hn : n = 2 ^ (k + 1) * (n / 2 ^ (k + 1)) + 2 ^ k := by
    have := Nat.div_add_mod n (2 ^ (k + 1))
    rw [hb] at this
    exact this.symm
  generalize n / 2 ^ (k + 1) = a at hn
  have hp : 0 < 2 ^ k := Nat.two_pow_pos k
  have hlt : 2 ^ k < 2 ^ (k + 1) := Nat.pow_lt_pow_right (by decide) (by omega)
  have hn1 : n - 1 = 2 ^ (k + 1) * a + (2 ^ k - 1) := by omega
  have hand : n &&& (n - 1) = 2 ^ (k + 1) * a := by
    refine Nat.eq_of_testBit_eq fun x => ?_
    rw [Nat.testBit_and, hn1, hn, Nat.testBit_two_pow_mul_add _ hlt, Nat.testBit_two_pow_mul_add _ (by omega), Nat.testBit_two_pow_mul, Nat.testBit_two_pow, Nat.testBit_two_pow_sub_one]
    by_cases hx : x < k + 1
    · rw [if_pos hx, if_pos hx, decide_eq_false (show ¬ x ≥ k + 1 by omega), Bool.false_and]
      by_cases hk : k = x
      · rw [decide_eq_false (show ¬ x < k by omega), Bool.and_false]
      · rw [decide_eq_false hk, Bool.false_and]
    · rw [if_neg hx, if_neg hx, decide_eq_true (show x ≥ k + 1 by omega), Bool.true_and, Bool.and_self]
  omega
theorem bits_nat (n : Nat) : Builtin.Int.intBits (n : Int) = lnF n := by
  unfold Builtin.Int.intBits lnF
  by_cases e : n = 0
  · subst e
    rfl
  · rw [if_neg e]
    simp [e]
theorem ln_pow (k : Nat) : lnF (2 ^ k) = k + 1 := by
  unfold lnF
  rw [if_neg (Nat.ne_of_gt (Nat.two_pow_pos k)), Nat.log2_two_pow]
theorem and_neg {n : Nat} (h0 : n ≠ 0) : Builtin.bitAnd (n : Int) (-(n : Int)) = ((2 ^ fpF n : Nat) : Int) := by
  unfold Builtin.bitAnd
  rw [decide_eq_true (Int.natCast_nonneg n), decide_eq_false (show ¬ (0 : Int) ≤ -(n : Int) by omega)]
  show (n : Int) - (((n : Int).toNat &&& (Builtin.bitNot (-(n : Int))).toNat : Nat) : Int) = _
  have e : (Builtin.bitNot (-(n : Int))).toNat = n - 1 := by
    unfold Builtin.bitNot
    omega
  rw [e, Int.toNat_natCast, ← low_eq h0]
  have := Nat.and_le_left (n := n) (m := n - 1)
  omega
end Bf
namespace Bf
open PySem PySem.Spec PyProof.Rows L2 LamX NdefX
theorem iop_fdivNN {X : Cx} : OpR X (inplaceOp .FloorDiv) (fun x y H Q => ∃ n m : Nat, x = .int (n : Int) ∧ y = .int (m : Int) ∧ 0 < m ∧ m < 1073741824 ∧ Q (.int ((n / m : Nat) : Int)) H) := by
  intro pins s σ H x y v u Q I rx ry h
  obtain ⟨n, m, rfl, rfl, hm, hm2, q⟩ := h
  refine iop_fdiv pins s σ H _ _ v u Q I rx ry ⟨(n : Int), (m : Int), rfl, rfl, ⟨by omega, by omega⟩, ?_⟩
  rw [Int.natCast_ediv] at q
  exact q
theorem iop_subN {X : Cx} : OpR X (inplaceOp .Sub) (fun x y H Q => ∃ n m : Nat, x = .int (n : Int) ∧ y = .int (m : Int) ∧ m ≤ n ∧ Q (.int ((n - m : Nat) : Int)) H) := by
  intro pins s σ H x y v u Q I rx ry h
  obtain ⟨n, m, rfl, rfl, hm, q⟩ := h
  refine iop_sub pins s σ H _ _ v u Q I rx ry ⟨(n : Int), (m : Int), rfl, rfl, ?_⟩
  rw [Int.natCast_sub hm] at q
  exact q
theorem ps_dead {X : Cx} {st : Stmt} : PS X st (fun _ _ _ => False) := ⟨fun _ _ _ _ _ _ h => h.elim⟩
/-- a def that is called -/
structure CalF (P : Program) (w : World) (K : PySem.W.Frag) (mg : Str → Option Value) (base : Heap) (k : Nat) (x : Str) (f : Addr) (fd : FuncData) (ps : List Str) (sp : Sp) : Prop where
  G : FnOk P w K mg base CX0 k f fd ps sp
  kp : PySem.W.keepIn K (.ref f) = true
  b : Binds K fd ps []
  g : mg x = some (.ref f)
structure CalG (P : Program) (w : World) (K : PySem.W.Frag) (mg : Str → Option Value) (base : Heap) (k : Nat) (x : Str) (f : Addr) (fd : FuncData) (ps : List Str) (sp : Sp) : Prop where
  G : FnG P w K mg base k f fd ps sp
  kp : PySem.W.keepIn K (.ref f) = true
  b : Binds K fd ps []
  g : mg x = some (.ref f)
/-- the built-ins are what they are -/
structure Bls (mg : Str → Option Value) : Prop where
  len : mg "len" = none
  tuple : mg "tuple" = none
  list : mg "list" = none
  range : mg "range" = none
  min : mg "min" = none
  max : mg "max" = none
  abs : mg "abs" = none
  int : mg "int" = none
  all : mg "all" = none
  any : mg "any" = none
  zip : mg "zip" = none
  enumerate : mg "enumerate" = none
  reversed : mg "reversed" = none
  repr : mg "repr" = none
  sorted : mg "sorted" = none
  sum : mg "sum" = none
  set : mg "set" = none
theorem FnG.imp {P : Program} {w : World} {K : PySem.W.Frag} {mg : Str → Option Value} {base : Heap} {k : Nat} {f : Addr} {fd : FuncData} {ps : List Str} {sp sp' : Sp} (F : FnG P w K mg base k f fd ps sp) (h : ∀ vs H Q E, sp' vs H Q E → sp vs H Q E) : FnG P w K mg base k f fd ps sp' :=
  ⟨fun vs H Q E q => F.len vs H Q E (h _ _ _ _ q), fun A outer s H args us vs Q E gd hr he hb hv hs => F.go A outer s H args us vs Q E gd hr he hb hv (h _ _ _ _ hs)⟩
def rLenOf (K : PySem.W.Frag) : List V → Hp → VK → Prop := fun xs H Q => ∃ p ys, xs = [.ref p] ∧ (SqL K H p ys ∨ SqT K H p ys) ∧ Q (.int ys.length) H
theorem fnd_nil {b : Addr} {A : Prop} : b ∈ ([] : List Addr) → A := fun h => absurd h List.not_mem_nil
theorem af_keeps {K : PySem.W.Frag} {T : List (Addr × Str)} {H H' : Hp} {q : Addr} {n n' : Nat} (pp : Pot H q n) (kk : Keeps q H H') (p' : Pot H' q n') : Af K T (some q) H n H' n' := by
  obtain ⟨l, hl⟩ := pot_lst pp
  exact ⟨Fr.keeps hl kk, fun tb => tabs_keeps pp tb kk, fun a e _ => by rw [← Option.some.inj e]; exact p'⟩
def takeW (size : Nat) : M Nat := fun n P => (0 < size ∧ size < 2305843009213693952 ∧ n < 100000) ∧ ∀ r, r < size → P r (n + 1)
def ofW {α : Type} (xs : Lst α) : M α := fun n P => (0 < xs.l.length ∧ xs.l.length < 1073741824 ∧ n < 100000) ∧ ∀ x, x ∈ xs.l → P x (n + 1)
theorem ima_mem {α : Type} [Enc α] [Pu α] {K : PySem.W.Frag} {H : Hp} : ∀ {xs : List α} {vs : List V} {fp : List Addr} {v : V}, ImA K H vs (xs.map enc) fp → v ∈ vs → ∃ x ∈ xs, Im K H v (enc x) []
  | [], _, _, _, h, m => by cases h; cases m
  | x :: xs, _, _, v, h, m => by
    cases h with
    | cons a b q =>
      rcases List.mem_cons.mp m with rfl | m
      · have := Pu.pu a
        subst this
        exact ⟨x, List.mem_cons_self, a⟩
      · obtain ⟨y, h1, h2⟩ := ima_mem b m
        exact ⟨y, List.mem_cons_of_mem _ h1, h2⟩
section
variable {K : PySem.W.Frag} {T : List (Addr × Str)} {ρ : List Sl}
variable {α β γ : Type} [Enc α] [Enc β] [Enc γ]
theorem ow_andN : OpW K (fun x y H Q => ∃ n m : Nat, x = .int (n : Int) ∧ y = .int (m : Int) ∧ Q (.int ((n &&& m : Nat) : Int)) H) (fun a b : Nat => retW (a &&& b)) := opw_n0 fun a b H Q q => ⟨a, b, rfl, rfl, q⟩
theorem ow_shlN : OpW K (fun x y H Q => ∃ n k : Nat, x = .int (n : Int) ∧ y = .int (k : Int) ∧ n < 2 ^ 64 ∧ k ≤ 1000000 ∧ Q (.int ((n <<< k : Nat) : Int)) H) (fun a b : Nat => reqW (a < 2 ^ 64 ∧ b ≤ 1000000) (retW (a <<< b))) := opw_n (C := fun a b => a < 2 ^ 64 ∧ b ≤ 1000000) fun a b H Q c q => ⟨a, b, rfl, rfl, c.1, c.2, q⟩
/-- sorted(list of numbers) -/
def sortN (xs : List Nat) : List Nat := xs.mergeSort (fun a b => decide (a ≤ b))
theorem sort_uniq {xs ys : List Nat} (hp : ys.Perm xs) (hs : ys.Pairwise (· ≤ ·)) : ys = sortN xs := by
  have h1 : (sortN xs).Perm xs := List.mergeSort_perm _ _
  have h2 : (sortN xs).Pairwise (· ≤ ·) := by
    have := List.pairwise_mergeSort (le := fun a b : Nat => decide (a ≤ b)) (fun a b c h1 h2 => by simp at *; omega) (fun a b => by simp; omega) xs
    exact this.imp fun h => of_decide_eq_true h
  exact (hp.trans h1.symm).eq_of_pairwise (fun a b _ _ h1 h2 => Nat.le_antisymm h1 h2) hs h2
theorem int_list {ns' : List Int} {ks : List Nat} (h : ns'.Perm (ks.map fun (n : Nat) => (n : Int))) : ∃ ls : List Nat, ns' = ls.map (fun (n : Nat) => (n : Int)) ∧ ls.Perm ks := by
  have h2 := h.map Int.toNat
  rw [List.map_map] at h2
  have e : List.map (Int.toNat ∘ fun (n : Nat) => (n : Int)) ks = ks := by
    rw [show (Int.toNat ∘ fun (n : Nat) => (n : Int)) = id from funext fun n => rfl, List.map_id]
  rw [e] at h2
  refine ⟨ns'.map Int.toNat, ?_, h2⟩
  rw [List.map_map]
  have : ∀ z ∈ ns', ((fun (n : Nat) => (n : Int)) ∘ Int.toNat) z = z := fun z hz => by
    obtain ⟨n, _, rfl⟩ := List.mem_map.mp (h.mem_iff.mp hz)
    rfl
  rw [List.map_congr_left this]
  exact (List.map_id' ns').symm
theorem nv_map (xs : List Nat) : nv xs = (xs.map fun (n : Nat) => (n : Int)).map V.int := by
  unfold nv
  rw [List.map_map]
  rfl
theorem uw_sorted : UnW K (fun x => rSortedI K [x]) (fun xs : Lst Nat => retW (⟨sortN xs.l⟩ : Lst Nat)) := fun xs H v fp i1 n P p Q q => by
  obtain ⟨a, rfl, hT⟩ := im_nvL i1
  refine ⟨a, xs.l.map fun (n : Nat) => (n : Int), rfl, by rw [← nv_map]; exact .inl (.inl hT), fun ns' t hp hs nt => ?_⟩
  obtain ⟨ls, rfl, hl⟩ := int_list hp
  have e : ls = sortN xs.l := sort_uniq hl (by rw [List.pairwise_map] at hs; exact hs.imp fun h => by omega)
  rw [← nv_map, e]
  exact q _ _ _ [t] p (same_new (Same.refl H) nt) (nv_imL upd_same) ⟨List.nodup_cons.mpr ⟨List.not_mem_nil, List.nodup_nil⟩, fun x hx => by rw [List.mem_singleton.mp hx]; exact nt⟩
theorem rg_nv : ∀ k : Nat, rgV 0 (k : Int) = nv (List.range k) := fun k => by
  unfold rgV nv
  rw [show ((k : Int) - 0).toNat = k by omega]
  refine List.map_congr_left fun i _ => ?_
  simp
theorem re_listRg {t : TE} {m : M Nat} {f : Bool} (h : RE K T t ρ f m) : RE K T (tLstRg (tRg1 t)) ρ true (bindW m fun k => reqW (k ≤ 16777216) (retW (⟨List.range k⟩ : Lst Nat))) := fun Bs po φ σ H n st P p Q q => h Bs po φ σ H n st _ p _ fun k n1 v H1 fp pa a1 i1 g1 => by
  cases i1
  have hk := pa.1
  refine ⟨(k : Int), rfl, RgOk.of_le (by omega) (by omega) (by omega) (by omega), fun t nt => ?_⟩
  rw [rg_nv]
  have s := same_new (Same.refl H1) nt (o := .lst (nv (List.range k)))
  exact q _ n1 _ _ [t] pa.2 (a1.trans (Af.same s)) (nv_imL upd_same) (Fp.back a1.fr (fp_new (st.af a1) ⟨List.nodup_cons.mpr ⟨List.not_mem_nil, List.nodup_nil⟩, fun x hx => by rw [List.mem_singleton.mp hx]; exact nt⟩))
theorem setL_ok (a : Addr) (v : V) (ys : List V) (j : Nat) (H : Hp) (Q : Hp → Prop) (e : H a = some (.lst ys)) (hj : j < ys.length) (q : Q (upd H a (.lst (ys.set j v)))) : L2.rSetL (.ref a) (.int (j : Int)) v H Q := ⟨a, ys, j, j, rfl, rfl, e, by unfold ixN; rw [if_pos (by omega), if_pos (by omega)]; rfl, q⟩
theorem re_revL [Pu α] {te : TE} {m : M (Lst α)} {f : Bool} (h : RE K T te ρ f m) : RE K T (tRevL K te) ρ true (mapW (fun xs : Lst α => (⟨xs.l.reverse⟩ : Lst α)) m) := fun Bs po φ σ H n st P p Q q =>
  h Bs po φ σ H n st _ p _ fun xs n1 v H1 fp pa a1 i1 g1 => by
    obtain ⟨a, vs, fq, rfl, hT, hA, e⟩ := im_lst i1
    have := ima_pu hA
    subst this
    refine ⟨a, vs, rfl, .inl (.inl hT), fun t nt => ?_⟩
    have s := same_new (Same.refl H1) nt (o := .lst vs.reverse)
    refine q _ n1 _ _ [t] pa (a1.trans (Af.same s)) (.lst upd_same ?_ rfl) (Fp.back a1.fr (fp_new (st.af a1) ⟨List.nodup_cons.mpr ⟨List.not_mem_nil, List.nodup_nil⟩, fun x hx => by rw [List.mem_singleton.mp hx]; exact nt⟩))
    refine ImA.same ?_ s
    have : ∀ {xs : List α} {vs : List V}, ImA K H1 vs (xs.map enc) [] → ImA K H1 vs.reverse (xs.reverse.map enc) [] := by
      intro xs
      induction xs with
      | nil => intro vs h; cases h; exact .nil
      | cons x xs ih =>
        intro vs h
        cases h with
        | cons a b q =>
          have e1 := ima_pu b
          have e2 := Pu.pu a
          subst e1 e2
          rw [List.reverse_cons, List.reverse_cons, List.map_append]
          exact (ih b).app (.cons a .nil rfl)
    exact this hA
end
end Bf
namespace Bf
open PySem PySem.Spec PyProof.Rows L2 LamX NdefX
/-! ## a law -/
def spLaw (K : PySem.W.Frag) : Sp := fun vs H Q _ => ∃ (a : Addr) (ns : List Int), vs = [.ref a] ∧ SqL K H a (ns.map V.int) ∧ ns.length ≤ 63 ∧ ∀ H', Q (.bl true) H'
theorem spLaw_len {K : PySem.W.Frag} {vs : List V} {H : Hp} {Q : VK} {E : XK} (h : spLaw K vs H Q E) : vs.length = 1 := by
  obtain ⟨a, ns, rfl, _⟩ := h
  rfl
def spLawT (K : PySem.W.Frag) (T : List (Addr × Str)) : Sp := fun vs H Q _ => ∃ (a : Addr) (ns : List Int), vs = [.ref a] ∧ SqL K H a (ns.map V.int) ∧ ns.length ≤ 63 ∧ Tabs T H ∧ ∀ H', Q (.bl true) H'
theorem spLawT_len {K : PySem.W.Frag} {T : List (Addr × Str)} {vs : List V} {H : Hp} {Q : VK} {E : XK} (h : spLawT K T vs H Q E) : vs.length = 1 := by
  obtain ⟨a, ns, rfl, _⟩ := h
  rfl
theorem scr_ok {K : PySem.W.Frag} {H : Hp} {a : Addr} {vs : List V} (h : SqL K H a vs) : ScrOk K (fun b o => H b = some o ∧ ∀ ps, o ≠ .tbl ps) a vs := by
  rcases h with (h | ⟨o, h⟩) | h
  · exact .inl ⟨_, ⟨h, fun ps z => nomatch z⟩, .inl rfl⟩
  · exact .inl ⟨_, ⟨h, fun ps z => nomatch z⟩, .inr ⟨_, rfl⟩⟩
  · exact .inr h
theorem lawT_run {K : PySem.W.Frag} {T : List (Addr × Str)} {C : Option Addr → Prop} {B S : Type} {N : List Str} {ρ : List Int → List Sl} {t : TS} {mB : List Int → M (Ctl Bool B S)} {ρn : S → List Sl} {ρb : B → List Sl} (e : ∀ ns, [Sl.scr ns] ++ List.replicate (N.length - 1) Sl.any = ρ ns) (hC : C none) (hr : ∀ ns, RB K T C t (ρ ns) (mB ns) ρn ρb)
    {vs : List V} {H : Hp} {Q : VK} {E : XK} (h : spLawT K T vs H Q E) (win : ∀ ns : List Int, ns.length ≤ 63 → outW (mB ns) 0 fun r _ => r = true) : t { nx := fun _ H' => Q .non H', rt := Q } (L2.start N vs) H := by
  obtain ⟨a, ns, rfl, hS, hl, tb, fin⟩ := h
  refine end_pure (hr ns) hC rfl ⟨_, st_start (ss := [.scr ns]) (fps := [[]]) tb (fun b o z => ⟨z.1, z.2, by simp⟩) (fun a z => nomatch z) rfl (fun i s hi => ?_) (fun i d hi => ?_) (e ns)⟩ (win ns hl) fun r c v' H' fp hr af im _ _ => ?_
  · match i, hi with
    | 0, hi =>
      obtain rfl := Option.some.inj hi
      exact ⟨a, rfl, scr_ok hS⟩
    | i + 1, hi => cases hi
  · match i, hi with
    | 0, hi => cases hi
    | i + 1, hi => cases hi
  · subst hr
    cases im
    exact fin H'
theorem law_run {K : PySem.W.Frag} {T : List (Addr × Str)} {C : Option Addr → Prop} {B S : Type} {N : List Str} {ρ : List Int → List Sl} {t : TS} {mB : List Int → M (Ctl Bool B S)} {ρn : S → List Sl} {ρb : B → List Sl} (e : ∀ ns, [Sl.scr ns] ++ List.replicate (N.length - 1) Sl.any = ρ ns) (hC : C none) (hT : T = []) (hr : ∀ ns, RB K T C t (ρ ns) (mB ns) ρn ρb)
    {vs : List V} {H : Hp} {Q : VK} {E : XK} (h : spLaw K vs H Q E) (win : ∀ ns : List Int, ns.length ≤ 63 → outW (mB ns) 0 fun r _ => r = true) : t { nx := fun _ H' => Q .non H', rt := Q } (L2.start N vs) H := by
  obtain ⟨a, ns, rfl, hS, hl, fin⟩ := h
  subst hT
  exact lawT_run (E := fun _ _ _ => True) e hC hr ⟨a, ns, rfl, hS, hl, (fun p hp => absurd hp List.not_mem_nil), fin⟩ win
end Bf
namespace Bf
/-! ## what the words of pyw come to -/
section
variable {α β R B S : Type}
theorem drop_cons {xs : List α} {k : Nat} {y : α} {ys : List α} (e : xs.drop k = y :: ys) : xs[k]? = some y ∧ k < xs.length ∧ xs.drop (k + 1) = ys := by
  have hy : xs[k]? = some y := by
    have := congrArg (fun l => l[0]?) e
    simpa [List.getElem?_drop] using this
  refine ⟨hy, (List.getElem?_eq_some_iff.mp hy).1, ?_⟩
  rw [← List.drop_drop, e]
  rfl
theorem drop_nil {xs : List α} {k : Nat} (e : xs.drop k = []) (hk : k ≤ xs.length) : k = xs.length := by
  have := congrArg List.length e
  rw [List.length_drop] at this
  simp at this
  omega
theorem forW_inv {f : α → S → M (Ctl R S S)} {xs : List α} {s0 : S} {n0 : Nat} {P : Ctl R B S → Nat → Prop} (I : Nat → S → Nat → Prop) (h0 : I 0 s0 n0)
    (h : ∀ i a s n, xs[i]? = some a → I i s n → ∀ Q : Ctl R S S → Nat → Prop, (∀ s' n', I (i + 1) s' n' → Q (.nxt s') n') → (∀ r n', P (.ret r) n' → Q (.ret r) n') → (∀ s' n', P (.nxt s') n' → Q (.brk s') n') → f a s n Q) (he : ∀ s n, I xs.length s n → P (.nxt s) n) : (forW f xs s0 : M (Ctl R B S)) n0 P := by
  have key : ∀ (ys : List α) (k : Nat) (s : S) (n : Nat), xs.drop k = ys → k ≤ xs.length → I k s n → (forW f ys s : M (Ctl R B S)) n P := by
    intro ys
    induction ys with
    | nil =>
      intro k s n e hk i
      have := drop_nil e hk
      subst this
      rw [forW_nil]
      exact he s n i
    | cons y ys ih =>
      intro k s n e hk i
      rw [forW_cons]
      obtain ⟨hy, hk2, ey⟩ := drop_cons e
      exact h k y s n hy i _ (fun s' n' i' => ih (k + 1) s' n' ey hk2 i') (fun r n' p => p) fun s' n' p => p
  exact key xs 0 s0 n0 rfl (Nat.zero_le _) h0
/-- a loop that only goes on -/
theorem seq_for {S2 : Type} {f : α → S → M (Ctl R S S)} {xs : List α} {s0 : S} {n0 : Nat} {k : S → M (Ctl R B S2)} {P : Ctl R B S2 → Nat → Prop} (I : Nat → S → Nat → Prop) (h0 : I 0 s0 n0)
    (h : ∀ i a s n, xs[i]? = some a → I i s n → ∀ Q : Ctl R S S → Nat → Prop, (∀ s' n', I (i + 1) s' n' → Q (.nxt s') n') → f a s n Q) (he : ∀ s n, I xs.length s n → k s n P) : seqW (forW f xs s0) k n0 P := by
  unfold seqW
  refine forW_inv I h0 (fun i a s n e ii Q q1 q2 q3 => h i a s n e ii Q q1) ?_
  exact fun s n i => he s n i
theorem lcW_inv {mt : α → M Bool} {me : α → M β} {xs : List α} {n0 : Nat} {P : Lst β → Nat → Prop} (I : Nat → List β → Nat → Prop) (h0 : I 0 [] n0)
    (h : ∀ i a acc n, xs[i]? = some a → I i acc n → ∀ Q : List β → Nat → Prop, (∀ acc' n', I (i + 1) acc' n' → Q acc' n') → mt a n fun b n1 => if b = true then me a n1 fun y n2 => Q (acc ++ [y]) n2 else Q acc n1) (he : ∀ acc n, I xs.length acc n → P ⟨acc⟩ n) : lcW mt me xs [] n0 P := by
  have key : ∀ (ys : List α) (k : Nat) (acc : List β) (n : Nat), xs.drop k = ys → k ≤ xs.length → I k acc n → lcW mt me ys acc n P := by
    intro ys
    induction ys with
    | nil =>
      intro k s n e hk i
      have := drop_nil e hk
      subst this
      rw [lcW_nil]
      exact he s n i
    | cons y ys ih =>
      intro k acc n e hk i
      rw [lcW_cons]
      obtain ⟨hy, hk2, ey⟩ := drop_cons e
      have z := h k y acc n hy i (fun acc' n' => lcW mt me ys acc' n' P) fun acc' n' i' => ih (k + 1) acc' n' ey hk2 i'
      show mt y n fun b n1 => (if b = true then bindW (me y) fun z => lcW mt me ys (acc ++ [z]) else lcW mt me ys acc) n1 P
      have e2 : (fun (b : Bool) (n1 : Nat) => (if b = true then bindW (me y) fun z => lcW mt me ys (acc ++ [z]) else lcW mt me ys acc) n1 P) = fun b n1 => if b = true then me y n1 fun z n2 => lcW mt me ys (acc ++ [z]) n2 P else lcW mt me ys acc n1 P := by
        funext b n1
        cases b <;> rfl
      rw [e2]
      exact z
  exact key xs 0 [] n0 rfl (Nat.zero_le _) h0
/-- each item made into something, whatever is drawn -/
theorem lcW_map {me : α → M β} {g : α → β} {xs : List α} {n0 : Nat} {P : Lst β → Nat → Prop} (h : ∀ (i : Nat) a n, xs[i]? = some a → ∀ Q : β → Nat → Prop, Q (g a) n → me a n Q) (p : P ⟨xs.map g⟩ n0) : lcW (fun _ => retW true) me xs [] n0 P := by
  refine lcW_inv (fun i acc n => n = n0 ∧ acc = (xs.take i).map g) ⟨rfl, rfl⟩ ?_ ?_
  · rintro i a acc n e ⟨rfl, rfl⟩ Q q
    dsimp only [retW]
    rw [if_pos rfl]
    refine h i a _ e _ (q _ _ ⟨rfl, ?_⟩)
    rw [List.take_add_one, e, List.map_append]
    rfl
  · rintro acc n ⟨rfl, rfl⟩
    rw [List.take_length]
    exact p
/-- those items that pass -/
theorem lcW_filter {mt : α → M Bool} {t : α → Bool} {xs : List α} {n0 : Nat} {P : Lst α → Nat → Prop} (h : ∀ (i : Nat) a n, xs[i]? = some a → ∀ Q : Bool → Nat → Prop, Q (t a) n → mt a n Q) (p : P ⟨xs.filter t⟩ n0) : lcW mt (fun x => retW x) xs [] n0 P := by
  refine lcW_inv (fun i acc n => n = n0 ∧ acc = (xs.take i).filter t) ⟨rfl, rfl⟩ ?_ ?_
  · rintro i a acc n e ⟨rfl, rfl⟩ Q q
    refine h i a _ e _ ?_
    have et : (xs.take (i + 1)).filter t = (xs.take i).filter t ++ (if t a = true then [a] else []) := by
      rw [List.take_add_one, e, List.filter_append]
      show _ ++ List.filter t [a] = _
      rw [List.filter_cons]
      rfl
    cases ht : t a with
    | true =>
      rw [if_pos rfl]
      refine q _ _ ⟨rfl, ?_⟩
      rw [et, ht]
      rfl
    | false =>
      rw [if_neg (by decide)]
      refine q _ _ ⟨rfl, ?_⟩
      rw [et, ht]
      exact (List.append_nil _).symm
  · rintro acc n ⟨rfl, rfl⟩
    rw [List.take_length]
    exact p
/-- a while by what holds and what gets less -/
theorem seq_while {S2 : Type} {c : S → M Bool} {b : S → M (Ctl R S S)} {s0 : S} {n0 : Nat} {k : S → M (Ctl R B S2)} {P : Ctl R B S2 → Nat → Prop} (I : Nat → S → Nat → Prop) (m0 : Nat) (h0 : I m0 s0 n0)
    (h : ∀ m s n, I m s n → c s n fun t n1 => if t = true then b s n1 fun x n2 => match x with | .nxt s' => ∃ k', k' < m ∧ I k' s' n2 | .ret r => P (.ret r) n2 | .brk s' => k s' n2 P else k s n1 P) : seqW (whileW c b s0) k n0 P := by
  unfold seqW
  unfold whileW
  refine ⟨I, ⟨m0, h0⟩, fun m s n i => ?_⟩
  exact h m s n i
/-- a choice, whichever way -/
theorem if_w {c : Bool} {a b : M α} {n : Nat} {P : α → Nat → Prop} (ha : c = true → a n P) (hb : c = false → b n P) : (if c = true then a else b) n P := by
  cases c with
  | true => exact ha rfl
  | false => exact hb rfl
theorem seq_if {S2 : Type} {c : Bool} {a b : M (Ctl R B S)} {k : S → M (Ctl R B S2)} {n : Nat} {P : Ctl R B S2 → Nat → Prop} (ha : c = true → seqW a k n P) (hb : c = false → seqW b k n P) : seqW (if c = true then a else b) k n P := by
  cases c with
  | true => exact ha rfl
  | false => exact hb rfl
theorem seq_no {S2 : Type} {c : Bool} {a b : M (Ctl R B S)} {k : S → M (Ctl R B S2)} {n : Nat} {P : Ctl R B S2 → Nat → Prop} (e : c = false) (hb : seqW b k n P) : seqW (if c = true then a else b) k n P := by
  subst e
  exact hb
theorem seq_yes {S2 : Type} {c : Bool} {a b : M (Ctl R B S)} {k : S → M (Ctl R B S2)} {n : Nat} {P : Ctl R B S2 → Nat → Prop} (e : c = true) (hb : seqW a k n P) : seqW (if c = true then a else b) k n P := by
  subst e
  exact hb
theorem if_no {c : Bool} {a b : M α} {n : Nat} {P : α → Nat → Prop} (e : c = false) (hb : b n P) : (if c = true then a else b) n P := by
  subst e
  exact hb
theorem if_yes {c : Bool} {a b : M α} {n : Nat} {P : α → Nat → Prop} (e : c = true) (hb : a n P) : (if c = true then a else b) n P := by
  subst e
  exact hb
end
end Bf
namespace Bf
open PySem PySem.Spec PyProof.Rows L2 LamX NdefX
/-! ## data that can be shown and compared -/
structure Gd (d : PyData) (W D : Nat) : Prop where
  sh : d.showable = true
  di : d.hasDict = false
  de : d.depth ≤ D
  lv : d.leavesShort 64 = true
  we : d.weight ≤ W
  ca : d.canLay0 = true
theorem Gd.mono {d : PyData} {W D W' D' : Nat} (h : Gd d W D) (hw : W ≤ W') (hd : D ≤ D') : Gd d W' D' := ⟨h.sh, h.di, Nat.le_trans h.de hd, h.lv, Nat.le_trans h.we hw, h.ca⟩
theorem gd_all {W D : Nat} : ∀ ds : List PyData, (∀ d ∈ ds, Gd d W D) → PyData.showableAll ds = true ∧ PyData.hasDictAll ds = false ∧ PyData.depthAll ds ≤ D ∧ PyData.leavesShortAll 64 ds = true ∧ PyData.weightAll ds ≤ (W + 1) * ds.length ∧ PyData.canLayAll0 ds = true
  | [], _ => ⟨rfl, rfl, Nat.zero_le _, rfl, Nat.le_refl _, rfl⟩
  | d :: ds, h => by
    obtain ⟨a1, a2, a3, a4, a5, a6⟩ := gd_all ds fun x hx => h x (List.mem_cons_of_mem _ hx)
    have o := h d List.mem_cons_self
    refine ⟨?_, ?_, ?_, ?_, ?_, ?_⟩
    · show (PyData.showable d && PyData.showableAll ds) = true
      rw [o.sh, a1]; rfl
    · show (PyData.hasDict d || PyData.hasDictAll ds) = false
      rw [o.di, a2]; rfl
    · show max (PyData.depth d) (PyData.depthAll ds) ≤ D
      have := o.de
      omega
    · show (PyData.leavesShort 64 d && PyData.leavesShortAll 64 ds) = true
      rw [o.lv, a4]; rfl
    · show PyData.weight d + 1 + PyData.weightAll ds ≤ (W + 1) * (ds.length + 1)
      have := o.we
      rw [Nat.mul_add, Nat.mul_one]
      omega
    · show (PyData.canLay0 d && PyData.canLayAll0 ds) = true
      rw [o.ca, a6]; rfl
theorem gd_tup {ds : List PyData} {W D n : Nat} (h : ∀ d ∈ ds, Gd d W D) (hn : ds.length ≤ n) : Gd (.tuple ds) ((W + 1) * n) (D + 1) := by
  obtain ⟨a1, a2, a3, a4, a5, a6⟩ := gd_all ds h
  exact ⟨a1, a2, Nat.succ_le_succ a3, a4, Nat.le_trans a5 (Nat.mul_le_mul_left _ hn), a6⟩
theorem gd_lst {ds : List PyData} {W D n : Nat} (h : ∀ d ∈ ds, Gd d W D) (hn : ds.length ≤ n) : Gd (.list ds) ((W + 1) * n) (D + 1) := by
  obtain ⟨a1, a2, a3, a4, a5, a6⟩ := gd_all ds h
  exact ⟨a1, a2, Nat.succ_le_succ a3, a4, Nat.le_trans a5 (Nat.mul_le_mul_left _ hn), a6⟩
theorem gd_nat {n : Nat} (h : n < 2 ^ 61) : Gd (.int (n : Int)) 62 0 := by
  have h1 : ∀ m ∈ [n], m < 2 ^ 61 := fun m hm => by rw [List.mem_singleton.mp hm]; exact h
  have a := nd_show [n] h1
  have b := nd_leaves [n] h1
  have c := nd_weight [n] h1
  refine ⟨?_, rfl, Nat.le_refl _, ?_, ?_, rfl⟩
  · have a : (PyData.showable (.int (n : Int)) && true) = true := a
    rw [Bool.and_true] at a; exact a
  · have b : (PyData.leavesShort 64 (.int (n : Int)) && true) = true := b
    rw [Bool.and_true] at b; exact b
  · have c : PyData.weight (.int (n : Int)) + 1 + 0 ≤ 63 * 1 := c
    omega
theorem gd_none : Gd .none 0 0 := ⟨rfl, rfl, Nat.le_refl _, rfl, Nat.le_refl _, rfl⟩
theorem gd_bool (b : Bool) : Gd (.bool b) 0 0 := ⟨rfl, rfl, Nat.le_refl _, rfl, Nat.le_refl _, rfl⟩
theorem gd_row {ns : List Nat} {k : Nat} (h : ∀ n ∈ ns, n < 2 ^ 61) (hk : ns.length ≤ k) : Gd (enc ns) (63 * k) 1 := gd_tup (W := 62) (D := 0) (fun d hd => by
  obtain ⟨n, hn, rfl⟩ := List.mem_map.mp hd
  exact gd_nat (h n hn)) (by rw [List.length_map]; exact hk)
theorem gd_rowL {ns : List Nat} {k : Nat} (h : ∀ n ∈ ns, n < 2 ^ 61) (hk : ns.length ≤ k) : Gd (enc (⟨ns⟩ : Lst Nat)) (63 * k) 1 := gd_lst (W := 62) (D := 0) (fun d hd => by
  obtain ⟨n, hn, rfl⟩ := List.mem_map.mp hd
  exact gd_nat (h n hn)) (by rw [List.length_map]; exact hk)
theorem gd_of {α : Type} [Enc α] {xs : List α} {W D k : Nat} (h : ∀ x ∈ xs, Gd (enc x) W D) (hk : xs.length ≤ k) : Gd (enc xs) ((W + 1) * k) (D + 1) := gd_tup (fun d hd => by
  obtain ⟨n, hn, rfl⟩ := List.mem_map.mp hd
  exact h n hn) (by rw [List.length_map]; exact hk)
theorem gd_ofL {α : Type} [Enc α] {xs : List α} {W D k : Nat} (h : ∀ x ∈ xs, Gd (enc x) W D) (hk : xs.length ≤ k) : Gd (enc (⟨xs⟩ : Lst α)) ((W + 1) * k) (D + 1) := gd_lst (fun d hd => by
  obtain ⟨n, hn, rfl⟩ := List.mem_map.mp hd
  exact h n hn) (by rw [List.length_map]; exact hk)
theorem gd_opt {α : Type} [Enc α] {x : Option α} {W D : Nat} (h : ∀ a, x = some a → Gd (enc a) W D) : Gd (enc x) W D := by
  cases x with
  | none => exact gd_none.mono (Nat.zero_le _) (Nat.zero_le _)
  | some a => exact h a rfl
theorem Gd.repr {d : PyData} {W D : Nat} (h : Gd d W D) (hw : W ≤ 250000) (hd : D < 60) : ReprOk d := by
  refine ⟨h.sh, h.di, Nat.lt_of_le_of_lt h.de hd, ?_⟩
  have h1 := PyData.shown_le 64 (by decide) d h.lv
  have h2 := h.we
  rw [sizeLine_eq]
  omega
theorem Gd.shape {d : PyData} {W D : Nat} (h : Gd d W D) (hd : D ≤ 64) : shapeOk d := by
  refine ⟨?_, h.di⟩
  unfold SeqAt.shaped
  rw [h.ca, Bool.true_and]
  exact decide_eq_true (Nat.le_trans h.de hd)
theorem Gd.refl {d : PyData} {W D : Nat} (h : Gd d W D) : PyData.eqv d d = true := PySem.SeqAt.eqv_refl d h.ca
end Bf
namespace Bf
open PySem PySem.Spec PyProof.Rows L2 LamX NdefX
/-- what stands there, where it isn't None -/
def getW {α : Type} (m : M (Option α)) : M α := fun n P => m n fun o n' => ∃ a, o = some a ∧ P a n'
section
variable {K : PySem.W.Frag} {T : List (Addr × Str)} {ρ : List Sl} {α : Type} [Enc α]
theorem re_getW {t : TE} {fr : Bool} {m : M (Option α)} (h : RE K T t ρ fr m) : RE K T t ρ fr (getW m) := re_get h
theorem enc_somes (xs : List Nat) : (xs.map some).map (enc : Option Nat → PyData) = xs.map enc := by
  rw [List.map_map]
  rfl
theorem re_somesL {t : TE} {fr : Bool} {m : M (Lst Nat)} (h : RE K T t ρ fr m) : RE K T t ρ fr (mapW (fun xs : Lst Nat => (⟨xs.l.map some⟩ : Lst (Option Nat))) m) := re_as _ (fun a => congrArg PyData.list (enc_somes a.l)) h
theorem re_somesT {t : TE} {fr : Bool} {m : M (List Nat)} (h : RE K T t ρ fr m) : RE K T t ρ fr (mapW (fun xs : List Nat => xs.map some) m) := re_as _ (fun a => congrArg PyData.tuple (enc_somes a)) h
theorem ri_revR {t : TE} {m : M Nat} {f : Bool} (h : RE K T t ρ f m) : RI K T (iRevR (tRg1 t)) ρ (bindW m fun k => reqW (k < 4611686018427387904) (retW (List.range k).reverse)) := fun Bs po φ σ H n st P p R q => h Bs po φ σ H n st _ p _ fun k n1 v H1 fp pa a1 i1 g1 => by
  cases i1
  refine ⟨(k : Int), rfl, by omega, by omega, by omega, by have := pa.1; omega, ?_⟩
  refine q _ n1 _ H1 [] pa.2 a1 ⟨⟨fun _ => True, YFn fun i => .int ((0 : Int) + ((((k : Int) - 0).toNat : Nat) : Int) - 1 + (i : Nat) * (-1)), ?_, trivial, fun _ _ _ _ _ _ => trivial, fun i H x H' hi _ y => ?_⟩, fun b hb => absurd hb List.not_mem_nil⟩ (fun b hb => absurd hb List.not_mem_nil) fun b hb => absurd hb List.not_mem_nil
  · rw [List.length_reverse, List.length_range]
    have e : ((k : Int) - 0).toNat = k := by omega
    rw [e]
    exact walk_rangeC
  · obtain ⟨rfl, rfl⟩ := y
    rw [List.length_reverse, List.length_range] at hi
    refine ⟨k - 1 - i, by rw [List.getElem?_reverse (by rw [List.length_range]; exact hi), List.length_range, List.getElem?_range (by omega)], Same.refl _, ?_⟩
    show Im K _ (.int ((0 : Int) + ((((k : Int) - 0).toNat : Nat) : Int) - 1 + (i : Nat) * (-1))) (.int ((k - 1 - i : Nat) : Int)) []
    rw [show (0 : Int) + ((((k : Int) - 0).toNat : Nat) : Int) - 1 + (i : Nat) * (-1) = ((k - 1 - i : Nat) : Int) by omega]
    exact .int _
end
end Bf
namespace Bf
open PySem PySem.Spec PyProof.Rows L2 LamX NdefX
section
variable {K : PySem.W.Frag} {T : List (Addr × Str)} {ρ : List Sl} {α : Type} [Enc α]
/-- an own list, only read within an expression -/
theorem re_frz {t : TE} {fr : Bool} {m : M α} {i : Nat} {d : PyData} {ρ2 : List Sl} (hi : ρ[i]? = some (.own d)) (e : ρ.set i (.bor d) = ρ2) (h : RE K T t ρ2 fr m) : RE K T t ρ fr m := fun Bs po φ σ H n st P p Q q => by
  have st2 := st.freeze hi
  rw [e] at st2
  exact h _ po φ σ H n st2 P p Q q
theorem ow_repT [Pu α] : OpW K (rRepI K) (fun (xs : List α) (k : Int) => reqW (xs ≠ [] ∧ -1000 ≤ k ∧ k ≤ 1000 ∧ xs.length ≤ 1000) (retW (List.replicate k.toNat xs).flatten)) := fun xs k H v w fp fq i1 i2 n P p Q q => by
  obtain ⟨⟨hne, k1, k2, hz⟩, pa⟩ := p
  obtain ⟨a, vs, rfl, hT, hA⟩ := im_tup i1
  have e1 := ima_pu hA
  subst e1
  cases i2
  have hl1 := hA.len
  rw [List.length_map] at hl1
  refine ⟨a, k, vs, rfl, rfl, hT.q, fun e => hne ?_, k1, k2, by omega, fun e => ?_, fun _ t nt => ?_⟩
  · subst e
    exact List.eq_nil_of_length_eq_zero hl1.symm
  · subst e
    refine q _ H _ [] pa (Same.refl H) ?_ ⟨List.nodup_nil, fun x h => absurd h List.not_mem_nil⟩
    have : (List.replicate (1 : Int).toNat xs).flatten = xs := by simp
    rw [this]
    exact i1
  · have s := same_new (Same.refl H) nt (o := .tup (List.replicate k.toNat vs).flatten)
    refine q _ _ _ [] pa s (.tup upd_same ?_) ⟨List.nodup_nil, fun x h => absurd h List.not_mem_nil⟩
    refine ImA.same ?_ s
    generalize k.toNat = m
    show ImA K H _ ((List.replicate m xs).flatten.map enc) []
    induction m with
    | zero => exact .nil
    | succ m ih =>
      rw [List.replicate_succ, List.replicate_succ, List.flatten_cons, List.flatten_cons, List.map_append]
      exact hA.app ih
end
end Bf
namespace Bf
open PySem PySem.Spec PyProof.Rows L2
/-! ### set(xs) of a list of whole numbers -/
section
variable {P : Program} {w : World} {A : Around} {E : Value → Shared → Prop} {s : Shared}
abbrev bare (w : World) : Obj := { cls := .type "set", dict := none, data := .set #[] 0 (.fresh 0 0 (!w.params.followText "set-order")) }
abbrev withBare (w : World) (s : Shared) : Shared := { s with heap := s.heap.push (bare w) }
/-- what the filling leaves: S holds just the numbers, all else stands -/
structure Filled (w : World) (S : Addr) (ns : List Int) (s s' : Shared) : Prop where
  set : ∃ c, c ≤ ns.length ∧ SetR w s'.heap S (fun j => decide (j ∈ ns)) c
  keep : ∀ b o, b ≠ S → s.heap.get? b = some o → s'.heap.get? b = some o
  gens : s'.gens = s.gens
  drawn : s'.drawn = s.drawn
  os : s'.os = s.os
theorem fill_loop {S l I : Addr} {items : Array Value} {ns : List Int} {R : Result → Shared → Prop} (hh : A.in1.handled = none) (hne : l ≠ I) (hS : S ≠ I) (hSl : S ≠ l) (hit : IntsAre items.toList ns) (hb : ns.length + 1 < scanBound)
    (st : s.heap.IsListIter I l 0) (hl : s.heap.IsList l items) (h0 : s.heap.get? S = some (bare w))
    (h : ∀ s', (∃ c, c ≤ ns.length ∧ SetR w s'.heap S (fun j => decide (j ∈ ns)) c) → (∀ b o, b ≠ S → b ≠ I → s.heap.get? b = some o → s'.heap.get? b = some o) → s'.gens = s.gens → s'.drawn = s.drawn → s'.os = s.os → R (.ok (.ret .none)) s') :
    codeAny (model P w) A (.builtin "set.update.loop" ⟨[.ref S, .ref I], []⟩) R s := by
  have hn : items.size = ns.length := by
    have e := IntsAre.length hit
    rw [Array.length_toList] at e
    exact e
  refine L2.set_update_ints ((Walks.list hh I l hne items).toS) S (by simp [hS, hSl]) ns hn hb (fun i v hv => ?_) (items.size - 0) 0 s rfl (Nat.zero_le _) ⟨st, hl⟩ ⟨0, Nat.le_refl 0, L2.setR_new_at h0⟩ fun s' c hm hc hR => ?_
  · have hi : i < ns.length := by
      rw [← hn]
      exact (Array.getElem?_eq_some_iff.mp hv).1
    obtain ⟨t, e⟩ := IntsAre.int_at hit i v (by rw [Array.getElem?_toList]; exact hv)
    refine ⟨ns[i], t, List.getElem?_eq_getElem hi, ?_⟩
    rw [e, List.getD_eq_getElem?_getD, List.getElem?_eq_getElem hi] <;> rfl
  · exact h s' ⟨c, by omega, hR⟩ (fun b o h1 h2 e => hm.heap b o (by simp [h1, h2]) e) hm.gens hm.drawn hm.os
theorem fill_init {S l : Addr} {items : Array Value} {ns : List Int} {Q : PySem.Fin → Shared → Prop} (hh : A.handled = none) (hSl : S ≠ l) (hS : s.heap.get? S = some (bare w)) (hl : s.heap.IsList l items) (hit : IntsAre items.toList ns) (hb : ns.length + 1 < scanBound)
    (h : ∀ s', Filled w S ns s s' → Q (.done (.ret .none)) s') : wpAny (model P w) A (Builtin.«set.__init__» ⟨[.ref S, .ref l], []⟩) Q E s := by
  obtain ⟨⟨oc, od, dat, sl⟩, hol, hcl, nl, hdl⟩ := id hl
  dsimp only at hcl hdl
  subst hcl hdl
  have n1 := PySem.F.sub_list_set
  have n2 := PySem.F.sub_list_frozenset
  have n3 : (Value.type "list" == Value.type "dict") = false := by decide
  have n4 := sub_set_self
  have hSlt := Heap.lt_size hS
  have hllt := Heap.lt_size hol
  unfold Builtin.«set.__init__» noKeywords Builtin.Frozenset.updateFrom
  generalize hPI : pyIter = PI
  wp_walk
  subst hPI
  refine wpAny_pyIter_list hl (wpAny_bind (wpAny_runValue ?_))
  refine fill_loop (l := l) (items := items) (ns := ns) (by simp [hh]) (Nat.ne_of_lt hllt) (Nat.ne_of_lt hSlt) hSl hit hb ⟨_, Heap.get?_push_size _ rfl, rfl, rfl⟩ (hl.push _) (Heap.get?_push_of_some _ hS) fun s' h1 h2 h3 h4 h5 => ?_
  refine wpAny_pure (wpAny_pure (h s' ⟨h1, fun b o hbS e => ?_, h3, h4, h5⟩))
  exact h2 b o hbS (Nat.ne_of_lt (Heap.lt_size e)) (Heap.get?_push_of_some _ e)
theorem set_call {l : Addr} {items : Array Value} {ns : List Int} {Q : Value → Shared → Prop} (hh : A.handled = none) (hl : s.heap.IsList l items) (hit : IntsAre items.toList ns) (hb : ns.length + 1 < scanBound)
    (h : ∀ s', Filled w s.heap.objs.size ns (withBare w s) s' → Q (.ref s.heap.objs.size) s') : wpAny (model P w) A (call (.type "set") [.ref l]) Q E s := by
  obtain ⟨ol, hol, _⟩ := id hl
  have hlt := Heap.lt_size hol
  have m1 := PySem.F.called_set.mro
  obtain ⟨c, tl, hmro⟩ := m1
  have m2 := PySem.F.called_set.made
  have m3 := PySem.F.called_set.sub
  have m4 := PySem.F.called_set.notType
  have m5 := PySem.F.called_set.canCreate
  have m6 := PySem.F.typeCall_set_1 (.ref l)
  have m7 := PySem.F.called_set.init.lookup
  have m8 := PySem.F.called_set.init.bind (.ref s.heap.objs.size)
  have hS : (withBare w s).heap.get? s.heap.objs.size = some (bare w) := Heap.get?_push_size _ rfl
  have hT : Shared.TypeIs (withBare w s) (.ref s.heap.objs.size) "set" := ⟨_, hS, rfl⟩
  refine wpAny_call (codeAny_of_tree (wpAny_pure ⟨Code.quiet_builtin _ (by decide +kernel), codeAny_builtin PySem.F.entry_type_call ?_⟩))
  rw [Around.under_plain (weight_type_call_type "set" [.ref l] []) rfl]
  repeat (any_goals (first | assumption | wp_step))
  refine codeAny_mono (L2.code_set_led1 (.ref l) (E := E) (Q₁ := fun obj s₁ => obj = .ref s.heap.objs.size ∧ s₁ = withBare w s) ⟨rfl, rfl⟩) fun r s₁ hr => ?_
  match r, s₁, hr with
  | .ok (.ret _), _, ⟨rfl, rfl⟩ =>
    repeat (any_goals (first | assumption | wp_step))
    refine codeAny_mono (codeAny_call_builtin (R := wants (fun r s₂ => r = .none ∧ Filled w s.heap.objs.size ns (withBare w s) s₂) E) PySem.F.called_set.init.plain PySem.F.entry_set_init (check_set_init_1 hT ?_)) fun r₂ s₂ hr₂ => ?_
    · exact fill_init (by simp [hh]) (Nat.ne_of_gt hlt) hS (hl.push _) hit hb fun s' hf => ⟨rfl, hf⟩
    · match r₂, s₂, hr₂ with
      | .ok (.ret _), _, ⟨rfl, hf⟩ =>
        repeat (any_goals (first | assumption | wp_step))
        exact h _ hf
      | .error e, _, hr₂ => exact hr₂
  | .error e, _, hr => exact hr
end
def rSetL (K : PySem.W.Frag) (w : World) : List V → Hp → VK → Prop := fun xs H Q => ∃ (l : Addr) (ns : List Int), xs = [.ref l] ∧ SqL K H l (ns.map V.int) ∧ ns.length ≤ 1000 ∧ ∀ a c, H a = none → c ≤ ns.length → Q (.ref a) (upd H a (SetO w a (fun j => decide (j ∈ ns)) c))
theorem cr_setL {X : Cx} (hc : X.calm = true) : CallR X (.type "set") (rSetL X.K X.w) := by
  intro pins s σ H xs us Q I r h
  obtain ⟨l, ns, rfl, hq, hn, q⟩ := h
  obtain ⟨u, rfl, ru⟩ := vals1 r
  cases ru
  obtain ⟨its, rv, pl, hz⟩ := I.list hq
  refine set_call (I.ok.hd hc) pl.isList (by simpa using RZ.intsAre_vals rv) (by unfold scanBound; omega) fun s' hf => ?_
  obtain ⟨⟨c, hc1, hR⟩, hk, e1, e2, e3⟩ := hf
  obtain ⟨h', g', d', t', o'⟩ := s'
  dsimp only at hR hk e1 e2 e3
  subst e1 e2 e3
  exact ⟨.ref _, upd H s.heap.objs.size (SetO X.w s.heap.objs.size (fun j => decide (j ∈ ns)) c), I.laid (t' := t') (fun b u e => hk b u (Nat.ne_of_lt (Heap.lt_size e)) (Heap.get?_push_of_some _ e)) (Nat.le_refl _) (setO_new hR), rfl, q _ c (I.hok.fresh (Nat.le_refl _)) hc1⟩
end Bf
namespace Bf
open PySem PySem.Spec PyProof.Rows L2 LamX NdefX
/-! ### set of a tuple of whole numbers, sorted -/
def rSetU (K : PySem.W.Frag) (w : World) : List V → Hp → VK → Prop := fun xs H Q => ∃ (l : Addr) (ns : List Int), xs = [.ref l] ∧ SqT K H l (ns.map V.int) ∧ ns.length ≤ 1000 ∧ ∀ a c, H a = none → c ≤ ns.length → Q (.ref a) (upd H a (SetO w a (fun j => decide (j ∈ ns)) c))
theorem cr_setU {X : Cx} (hc : X.calm = true) : CallR X (.type "set") (rSetU X.K X.w) := by
  intro pins s σ H xs us Q I r h
  obtain ⟨l, ns, rfl, hq, hn, q⟩ := h
  obtain ⟨u, rfl, ru⟩ := vals1 r
  cases ru
  obtain ⟨its, rv, pl, hz⟩ := I.tuple hq
  refine L2.call_set_tupI ns (I.ok.hd hc) pl (by simpa using RZ.intsAre_vals rv) (by unfold scanBound; omega) fun h' tk c hR hc1 hk => ?_
  exact ⟨.ref _, upd H s.heap.objs.size (SetO X.w s.heap.objs.size (fun j => decide (j ∈ ns)) c), I.laid (t' := tk) (fun b u e => hk b u e) (Nat.le_refl _) (setO_new hR), rfl, q _ c (I.hok.fresh (Nat.le_refl _)) hc1⟩
theorem set_rise {ns : List Int} {L : List Nat} (hpw : ns.Pairwise (· < ·)) (hmem : ∀ k : Int, k ∈ ns ↔ decide (k ∈ L.map fun (n : Nat) => (n : Int)) = true) : ∃ zs : List Nat, ns = zs.map (fun (n : Nat) => (n : Int)) ∧ zs.Pairwise (· < ·) ∧ ∀ z, z ∈ zs ↔ z ∈ L := by
  have ens : ns = (ns.map Int.toNat).map fun (n : Nat) => (n : Int) := by
    rw [List.map_map]
    conv => lhs; rw [← List.map_id ns]
    refine List.map_congr_left fun x hx => ?_
    obtain ⟨y, _, rfl⟩ := List.mem_map.mp (of_decide_eq_true ((hmem x).mp hx))
    rfl
  generalize ns.map Int.toNat = zs at ens
  subst ens
  refine ⟨zs, rfl, ?_, fun z => ?_⟩
  · rw [List.pairwise_map] at hpw
    exact hpw.imp fun {a b} h => by omega
  · have h1 : ((z : Int) ∈ zs.map fun (n : Nat) => (n : Int)) ↔ z ∈ zs := ⟨fun h => by
      obtain ⟨y, hy, e⟩ := List.mem_map.mp h
      have : y = z := Int.ofNat.inj e
      rw [← this]
      exact hy, fun h => List.mem_map.mpr ⟨z, h, rfl⟩⟩
    have h2 : ((z : Int) ∈ L.map fun (n : Nat) => (n : Int)) ↔ z ∈ L := ⟨fun h => by
      obtain ⟨y, hy, e⟩ := List.mem_map.mp h
      have : y = z := Int.ofNat.inj e
      rw [← this]
      exact hy, fun h => List.mem_map.mpr ⟨z, h, rfl⟩⟩
    rw [← h1, hmem, decide_eq_true_iff, h2]
/-! ### the hands between -/
def mid (q h s j : Nat) : List Nat := (wl s (cl q (h ^^^ s) j)).tail.dropLast
theorem mid_mem {q h s j o : Nat} : o ∈ mid q h s j ↔ Bt q (h ^^^ s) j (o ^^^ s) := by
  unfold mid Bt
  generalize cl q (h ^^^ s) j = ks
  have e : (wl s ks).tail.dropLast = ((List.range (ks.length + 1)).tail.dropLast).map fun i => wf s (ks.take i) := by
    unfold wl
    rw [← List.map_tail, ← List.map_dropLast]
  have er : ∀ i, i ∈ (List.range (ks.length + 1)).tail.dropLast ↔ 1 ≤ i ∧ i < ks.length := fun i => by
    rw [List.range_succ_eq_map, List.tail_cons]
    cases hn : ks.length with
    | zero =>
      constructor
      · intro h
        exact absurd h List.not_mem_nil
      · intro h
        omega
    | succ n =>
      rw [List.range_succ, List.map_append, List.map_cons, List.map_nil, List.dropLast_concat, List.mem_map]
      constructor
      · rintro ⟨a, ha, rfl⟩
        rw [List.mem_range] at ha
        omega
      · rintro ⟨h1, h2⟩
        exact ⟨i - 1, List.mem_range.mpr (by omega), by omega⟩
  rw [e, List.mem_map]
  constructor
  · rintro ⟨i, hi, rfl⟩
    obtain ⟨h1, h2⟩ := (er i).mp hi
    refine ⟨i, h1, h2, ?_⟩
    rw [wf_xor (ks.take i) s, Nat.xor_comm s, Nat.xor_assoc, Nat.xor_self, Nat.xor_zero]
  · rintro ⟨i, h1, h2, h3⟩
    refine ⟨i, (er i).mpr ⟨h1, h2⟩, ?_⟩
    rw [wf_xor, h3, Nat.xor_comm, Nat.xor_assoc, Nat.xor_self, Nat.xor_zero]
theorem bt_end {q d j : Nat} (hj : j < q) (hd : d < 2 ^ q) : ¬ Bt q d j 0 ∧ ¬ Bt q d j d := by
  constructor
  · intro h
    have := ((bt_iff hj hd (Nat.two_pow_pos q)).mp h).1.1
    rw [Nat.zero_testBit] at this
    cases this
  · intro h
    exact ((bt_iff hj hd hd).mp h).2 rfl
theorem nodup_le : ∀ {l m : List Nat}, l.Nodup → (∀ x ∈ l, x ∈ m) → l.length ≤ m.length
  | [], m, _, _ => Nat.zero_le _
  | a :: l, m, nd, h => by
    obtain ⟨n1, n2⟩ := List.nodup_cons.mp nd
    have ha : a ∈ m := h a List.mem_cons_self
    have := nodup_le (l := l) (m := m.erase a) n2 fun x hx => (List.mem_erase_of_ne (fun (e : x = a) => n1 (e ▸ hx))).mpr (h x (List.mem_cons_of_mem a hx))
    rw [List.length_erase_of_mem ha] at this
    have := List.length_pos_of_mem ha
    rw [List.length_cons]
    omega
end Bf
namespace Bf
open PySem PySem.Spec PyProof.Rows L2 LamX NdefX
/-! ## calls, some arguments by place, the others by names -/
def gN {α : Type} (n : Nat) (π : List Nat) (us ws : List α) : List α := if us.length = n ∧ us.length + ws.length = π.length then π.filterMap (fun i => (us ++ ws)[i]?) else []
theorem vals_app {zs : List V} {us : List Value} {xs : List V} {ws : List Value} (r : Vals zs us) (r2 : Vals xs ws) : Vals (zs ++ xs) (us ++ ws) := by
  induction r with
  | nil => exact r2
  | cons a r ih => exact .cons a ih
theorem gN_rel {n : Nat} {π : List Nat} {vs zs : List V} {us ws : List Value} (r1 : Vals vs us) (r2 : Vals zs ws) : Vals (gN n π vs zs) (gN n π us ws) := by
  unfold gN
  rw [r1.length, r2.length]
  by_cases e : us.length = n ∧ us.length + ws.length = π.length
  · rw [if_pos e, if_pos e]
    exact gP_pick (vals_app r1 r2) π
  · rw [if_neg e, if_neg e]
    exact .nil
theorem gN_len {n m : Nat} {π : List Nat} {us ws : List Value} (hm : 0 < m) (h : (gN n π us ws).length = m) : us.length = n ∧ us.length + ws.length = π.length := by
  unfold gN at h
  by_cases e : us.length = n ∧ us.length + ws.length = π.length
  · exact e
  · rw [if_neg e] at h
    have : 0 = m := h
    omega
theorem kbN {n m : Nat} {π : List Nat} {ps ks : List Str} {K : PySem.W.Frag} {x : Str} {st : Stmt} {f : Addr} {fd : FuncData} (F : FunS K x st f fd) (hp : 0 < ps.length) (hm : n + m = π.length)
    (h : ∀ (kV doc pm : Value) (an : Option Addr) (cdv ct : Value) (us ws : List Value), us.length = n → ws.length = m → bindArgs (PySem.W.fnOf x x (defArgs st) (defBody st) (defScope st) .none kV doc pm an cdv ct) ⟨us, ks.zip ws⟩ = pure (ps.zip (gN n π us ws))) :
    KBinds K fd ps ks (gN n π) (gN n π) := by
  obtain ⟨oc, od, dV, kV, doc, pm, an, cdv, ct, osl, rfl, lk, hcd, hD, hK⟩ := F.ex
  rcases hD with ⟨_, rfl⟩ | ⟨z, _⟩
  · refine ⟨fun s us ws _ hl => ?_, fun r1 r2 => gN_rel r1 r2⟩
    obtain ⟨h1, h2⟩ := gN_len hp hl
    exact .of_eq (h kV doc pm an cdv ct us ws h1 (by omega))
  · exact absurd rfl z
theorem kbM {n m : Nat} {π : List Nat} {ps ks : List Str} {K : PySem.W.Frag} {x : Str} {st : Stmt} {f : Addr} {fd : FuncData} (F : Fun K x x st f fd) (hp : 0 < ps.length) (hm : n + m = π.length)
    (h : ∀ (kV doc pm : Value) (an : Option Addr) (cdv ct : Value) (us ws : List Value), us.length = n → ws.length = m → bindArgs (PySem.W.fnOf x x (defArgs st) (defBody st) (defScope st) .none kV doc pm an cdv ct) ⟨us, ks.zip ws⟩ = pure (ps.zip (gN n π us ws))) :
    KBinds K fd ps ks (gN n π) (gN n π) := by
  obtain ⟨oc, od, kV, doc, pm, an, cdv, ct, osl, rfl, lk, hcd⟩ := F.ex
  refine ⟨fun s us ws _ hl => ?_, fun r1 r2 => gN_rel r1 r2⟩
  obtain ⟨h1, h2⟩ := gN_len hp hl
  exact .of_eq (h kV doc pm an cdv ct us ws h1 (by omega))
/-- a def whose last parameter stands behind a star -/
structure CalS (P : Program) (w : World) (K : PySem.W.Frag) (mg : Str → Option Value) (base : Heap) (k : Nat) (x : Str) (f : Addr) (fd : FuncData) (ps : List Str) (sp : Sp) : Prop where
  G : FnOk P w K mg base CX0 k f fd ps sp
  kp : PySem.W.keepIn K (.ref f) = true
  g : mg x = some (.ref f)
section
variable {K : PySem.W.Frag} {T : List (Addr × Str)} {ρ : List Sl}
variable {α β γ δ : Type} [Enc α] [Enc β] [Enc γ] [Enc δ]
theorem re_calld1 {α1 R : Type} [Enc α1] [Enc R] {f : α1 → Nat → M R} {E : XK} {t1 : TE} {m1 : M α1} {b1 : Bool} (h1 : RE K T t1 ρ b1 m1) : RE K T (tCall (spW2 K T f) [.int 0] E (tCons t1 tNil)) ρ true (c1W m1 fun a1 => pureW (f a1 0)) := fun Bs po φ σ H n st P p Q q =>
  h1 Bs po φ σ H n st _ p _ fun a1 n1 v1 H1 f1 p1 x1 i1 g1 =>
  ⟨_, (0 : Nat), _, V.int 0, _, [], rfl, ⟨i1, Im.int _⟩, (st.af x1).tabs, _, p1, fun r c v' H' fp pr af im nd hf => q r n1 v' H' fp pr (Af.trans x1 ⟨Fr.weak af.fr, af.tabs, fun a e z => keep_pot af z⟩) im (Fp.back x1.fr ⟨fun b hb => (st.af x1).fresh_pot (hf b hb), fun _ => ⟨nd, hf⟩⟩)⟩
theorem re_calld2 {α1 α2 R : Type} [Enc α1] [Enc α2] [Enc R] {f : α1 → α2 → Nat → M R} {E : XK} {t1 : TE} {m1 : M α1} {b1 : Bool} (h1 : RE K T t1 ρ b1 m1) {t2 : TE} {m2 : M α2} {b2 : Bool} (h2 : RE K T t2 ρ b2 m2) : RE K T (tCall (spW3 K T f) [.int 0] E (tCons t1 (tCons t2 tNil))) ρ true (c2W m1 m2 fun a1 a2 => pureW (f a1 a2 0)) := fun Bs po φ σ H n st P p Q q =>
  h1 Bs po φ σ H n st _ p _ fun a1 n1 v1 H1 f1 p1 x1 i1 g1 =>
  h2 Bs po φ σ H1 n1 (st.af x1) _ p1 _ fun a2 n2 v2 H2 f2 p2 x2 i2 g2 =>
  ⟨_, _, (0 : Nat), _, _, V.int 0, _, _, [], rfl, ⟨(i1.af g1.1 x2.fr), i2, Im.int _⟩, ((st.af x1).af x2).tabs, _, p2, fun r c v' H' fp pr af im nd hf => q r n2 v' H' fp pr (Af.trans (Af.trans x1 x2) ⟨Fr.weak af.fr, af.tabs, fun a e z => keep_pot af z⟩) im (Fp.back (Af.trans x1 x2).fr ⟨fun b hb => ((st.af x1).af x2).fresh_pot (hf b hb), fun _ => ⟨nd, hf⟩⟩)⟩
theorem re_calld3 {α1 α2 α3 R : Type} [Enc α1] [Enc α2] [Enc α3] [Enc R] {f : α1 → α2 → α3 → Nat → M R} {E : XK} {t1 : TE} {m1 : M α1} {b1 : Bool} (h1 : RE K T t1 ρ b1 m1) {t2 : TE} {m2 : M α2} {b2 : Bool} (h2 : RE K T t2 ρ b2 m2) {t3 : TE} {m3 : M α3} {b3 : Bool} (h3 : RE K T t3 ρ b3 m3) : RE K T (tCall (spW4 K T f) [.int 0] E (tCons t1 (tCons t2 (tCons t3 tNil)))) ρ true (c3W m1 m2 m3 fun a1 a2 a3 => pureW (f a1 a2 a3 0)) := fun Bs po φ σ H n st P p Q q =>
  h1 Bs po φ σ H n st _ p _ fun a1 n1 v1 H1 f1 p1 x1 i1 g1 =>
  h2 Bs po φ σ H1 n1 (st.af x1) _ p1 _ fun a2 n2 v2 H2 f2 p2 x2 i2 g2 =>
  h3 Bs po φ σ H2 n2 ((st.af x1).af x2) _ p2 _ fun a3 n3 v3 H3 f3 p3 x3 i3 g3 =>
  ⟨_, _, _, (0 : Nat), _, _, _, V.int 0, _, _, _, [], rfl, ⟨((i1.af g1.1 x2.fr).af g1.1 x3.fr), (i2.af g2.1 x3.fr), i3, Im.int _⟩, (((st.af x1).af x2).af x3).tabs, _, p3, fun r c v' H' fp pr af im nd hf => q r n3 v' H' fp pr (Af.trans (Af.trans (Af.trans x1 x2) x3) ⟨Fr.weak af.fr, af.tabs, fun a e z => keep_pot af z⟩) im (Fp.back (Af.trans (Af.trans x1 x2) x3).fr ⟨fun b hb => (((st.af x1).af x2).af x3).fresh_pot (hf b hb), fun _ => ⟨nd, hf⟩⟩)⟩
theorem re_calld4 {α1 α2 α3 α4 R : Type} [Enc α1] [Enc α2] [Enc α3] [Enc α4] [Enc R] {f : α1 → α2 → α3 → α4 → Nat → M R} {E : XK} {t1 : TE} {m1 : M α1} {b1 : Bool} (h1 : RE K T t1 ρ b1 m1) {t2 : TE} {m2 : M α2} {b2 : Bool} (h2 : RE K T t2 ρ b2 m2) {t3 : TE} {m3 : M α3} {b3 : Bool} (h3 : RE K T t3 ρ b3 m3) {t4 : TE} {m4 : M α4} {b4 : Bool} (h4 : RE K T t4 ρ b4 m4) : RE K T (tCall (spW5 K T f) [.int 0] E (tCons t1 (tCons t2 (tCons t3 (tCons t4 tNil))))) ρ true (c4W m1 m2 m3 m4 fun a1 a2 a3 a4 => pureW (f a1 a2 a3 a4 0)) := fun Bs po φ σ H n st P p Q q =>
  h1 Bs po φ σ H n st _ p _ fun a1 n1 v1 H1 f1 p1 x1 i1 g1 =>
  h2 Bs po φ σ H1 n1 (st.af x1) _ p1 _ fun a2 n2 v2 H2 f2 p2 x2 i2 g2 =>
  h3 Bs po φ σ H2 n2 ((st.af x1).af x2) _ p2 _ fun a3 n3 v3 H3 f3 p3 x3 i3 g3 =>
  h4 Bs po φ σ H3 n3 (((st.af x1).af x2).af x3) _ p3 _ fun a4 n4 v4 H4 f4 p4 x4 i4 g4 =>
  ⟨_, _, _, _, (0 : Nat), _, _, _, _, V.int 0, _, _, _, _, [], rfl, ⟨(((i1.af g1.1 x2.fr).af g1.1 x3.fr).af g1.1 x4.fr), ((i2.af g2.1 x3.fr).af g2.1 x4.fr), (i3.af g3.1 x4.fr), i4, Im.int _⟩, ((((st.af x1).af x2).af x3).af x4).tabs, _, p4, fun r c v' H' fp pr af im nd hf => q r n4 v' H' fp pr (Af.trans (Af.trans (Af.trans (Af.trans x1 x2) x3) x4) ⟨Fr.weak af.fr, af.tabs, fun a e z => keep_pot af z⟩) im (Fp.back (Af.trans (Af.trans (Af.trans x1 x2) x3) x4).fr ⟨fun b hb => ((((st.af x1).af x2).af x3).af x4).fresh_pot (hf b hb), fun _ => ⟨nd, hf⟩⟩)⟩
theorem re_calld5 {α1 α2 α3 α4 α5 R : Type} [Enc α1] [Enc α2] [Enc α3] [Enc α4] [Enc α5] [Enc R] {f : α1 → α2 → α3 → α4 → α5 → Nat → M R} {E : XK} {t1 : TE} {m1 : M α1} {b1 : Bool} (h1 : RE K T t1 ρ b1 m1) {t2 : TE} {m2 : M α2} {b2 : Bool} (h2 : RE K T t2 ρ b2 m2) {t3 : TE} {m3 : M α3} {b3 : Bool} (h3 : RE K T t3 ρ b3 m3) {t4 : TE} {m4 : M α4} {b4 : Bool} (h4 : RE K T t4 ρ b4 m4) {t5 : TE} {m5 : M α5} {b5 : Bool} (h5 : RE K T t5 ρ b5 m5) : RE K T (tCall (spW6 K T f) [.int 0] E (tCons t1 (tCons t2 (tCons t3 (tCons t4 (tCons t5 tNil)))))) ρ true (c5W m1 m2 m3 m4 m5 fun a1 a2 a3 a4 a5 => pureW (f a1 a2 a3 a4 a5 0)) := fun Bs po φ σ H n st P p Q q =>
  h1 Bs po φ σ H n st _ p _ fun a1 n1 v1 H1 f1 p1 x1 i1 g1 =>
  h2 Bs po φ σ H1 n1 (st.af x1) _ p1 _ fun a2 n2 v2 H2 f2 p2 x2 i2 g2 =>
  h3 Bs po φ σ H2 n2 ((st.af x1).af x2) _ p2 _ fun a3 n3 v3 H3 f3 p3 x3 i3 g3 =>
  h4 Bs po φ σ H3 n3 (((st.af x1).af x2).af x3) _ p3 _ fun a4 n4 v4 H4 f4 p4 x4 i4 g4 =>
  h5 Bs po φ σ H4 n4 ((((st.af x1).af x2).af x3).af x4) _ p4 _ fun a5 n5 v5 H5 f5 p5 x5 i5 g5 =>
  ⟨_, _, _, _, _, (0 : Nat), _, _, _, _, _, V.int 0, _, _, _, _, _, [], rfl, ⟨((((i1.af g1.1 x2.fr).af g1.1 x3.fr).af g1.1 x4.fr).af g1.1 x5.fr), (((i2.af g2.1 x3.fr).af g2.1 x4.fr).af g2.1 x5.fr), ((i3.af g3.1 x4.fr).af g3.1 x5.fr), (i4.af g4.1 x5.fr), i5, Im.int _⟩, (((((st.af x1).af x2).af x3).af x4).af x5).tabs, _, p5, fun r c v' H' fp pr af im nd hf => q r n5 v' H' fp pr (Af.trans (Af.trans (Af.trans (Af.trans (Af.trans x1 x2) x3) x4) x5) ⟨Fr.weak af.fr, af.tabs, fun a e z => keep_pot af z⟩) im (Fp.back (Af.trans (Af.trans (Af.trans (Af.trans x1 x2) x3) x4) x5).fr ⟨fun b hb => (((((st.af x1).af x2).af x3).af x4).af x5).fresh_pot (hf b hb), fun _ => ⟨nd, hf⟩⟩)⟩
theorem re_calld6 {α1 α2 α3 α4 α5 α6 R : Type} [Enc α1] [Enc α2] [Enc α3] [Enc α4] [Enc α5] [Enc α6] [Enc R] {f : α1 → α2 → α3 → α4 → α5 → α6 → Nat → M R} {E : XK} {t1 : TE} {m1 : M α1} {b1 : Bool} (h1 : RE K T t1 ρ b1 m1) {t2 : TE} {m2 : M α2} {b2 : Bool} (h2 : RE K T t2 ρ b2 m2) {t3 : TE} {m3 : M α3} {b3 : Bool} (h3 : RE K T t3 ρ b3 m3) {t4 : TE} {m4 : M α4} {b4 : Bool} (h4 : RE K T t4 ρ b4 m4) {t5 : TE} {m5 : M α5} {b5 : Bool} (h5 : RE K T t5 ρ b5 m5) {t6 : TE} {m6 : M α6} {b6 : Bool} (h6 : RE K T t6 ρ b6 m6) : RE K T (tCall (spW7 K T f) [.int 0] E (tCons t1 (tCons t2 (tCons t3 (tCons t4 (tCons t5 (tCons t6 tNil))))))) ρ true (c6W m1 m2 m3 m4 m5 m6 fun a1 a2 a3 a4 a5 a6 => pureW (f a1 a2 a3 a4 a5 a6 0)) := fun Bs po φ σ H n st P p Q q =>
  h1 Bs po φ σ H n st _ p _ fun a1 n1 v1 H1 f1 p1 x1 i1 g1 =>
  h2 Bs po φ σ H1 n1 (st.af x1) _ p1 _ fun a2 n2 v2 H2 f2 p2 x2 i2 g2 =>
  h3 Bs po φ σ H2 n2 ((st.af x1).af x2) _ p2 _ fun a3 n3 v3 H3 f3 p3 x3 i3 g3 =>
  h4 Bs po φ σ H3 n3 (((st.af x1).af x2).af x3) _ p3 _ fun a4 n4 v4 H4 f4 p4 x4 i4 g4 =>
  h5 Bs po φ σ H4 n4 ((((st.af x1).af x2).af x3).af x4) _ p4 _ fun a5 n5 v5 H5 f5 p5 x5 i5 g5 =>
  h6 Bs po φ σ H5 n5 (((((st.af x1).af x2).af x3).af x4).af x5) _ p5 _ fun a6 n6 v6 H6 f6 p6 x6 i6 g6 =>
  ⟨_, _, _, _, _, _, (0 : Nat), _, _, _, _, _, _, V.int 0, _, _, _, _, _, _, [], rfl, ⟨(((((i1.af g1.1 x2.fr).af g1.1 x3.fr).af g1.1 x4.fr).af g1.1 x5.fr).af g1.1 x6.fr), ((((i2.af g2.1 x3.fr).af g2.1 x4.fr).af g2.1 x5.fr).af g2.1 x6.fr), (((i3.af g3.1 x4.fr).af g3.1 x5.fr).af g3.1 x6.fr), ((i4.af g4.1 x5.fr).af g4.1 x6.fr), (i5.af g5.1 x6.fr), i6, Im.int _⟩, ((((((st.af x1).af x2).af x3).af x4).af x5).af x6).tabs, _, p6, fun r c v' H' fp pr af im nd hf => q r n6 v' H' fp pr (Af.trans (Af.trans (Af.trans (Af.trans (Af.trans (Af.trans x1 x2) x3) x4) x5) x6) ⟨Fr.weak af.fr, af.tabs, fun a e z => keep_pot af z⟩) im (Fp.back (Af.trans (Af.trans (Af.trans (Af.trans (Af.trans x1 x2) x3) x4) x5) x6).fr ⟨fun b hb => ((((((st.af x1).af x2).af x3).af x4).af x5).af x6).fresh_pot (hf b hb), fun _ => ⟨nd, hf⟩⟩)⟩
theorem re_calld7 {α1 α2 α3 α4 α5 α6 α7 R : Type} [Enc α1] [Enc α2] [Enc α3] [Enc α4] [Enc α5] [Enc α6] [Enc α7] [Enc R] {f : α1 → α2 → α3 → α4 → α5 → α6 → α7 → Nat → M R} {E : XK} {t1 : TE} {m1 : M α1} {b1 : Bool} (h1 : RE K T t1 ρ b1 m1) {t2 : TE} {m2 : M α2} {b2 : Bool} (h2 : RE K T t2 ρ b2 m2) {t3 : TE} {m3 : M α3} {b3 : Bool} (h3 : RE K T t3 ρ b3 m3) {t4 : TE} {m4 : M α4} {b4 : Bool} (h4 : RE K T t4 ρ b4 m4) {t5 : TE} {m5 : M α5} {b5 : Bool} (h5 : RE K T t5 ρ b5 m5) {t6 : TE} {m6 : M α6} {b6 : Bool} (h6 : RE K T t6 ρ b6 m6) {t7 : TE} {m7 : M α7} {b7 : Bool} (h7 : RE K T t7 ρ b7 m7) : RE K T (tCall (spW8 K T f) [.int 0] E (tCons t1 (tCons t2 (tCons t3 (tCons t4 (tCons t5 (tCons t6 (tCons t7 tNil)))))))) ρ true (c7W m1 m2 m3 m4 m5 m6 m7 fun a1 a2 a3 a4 a5 a6 a7 => pureW (f a1 a2 a3 a4 a5 a6 a7 0)) := fun Bs po φ σ H n st P p Q q =>
  h1 Bs po φ σ H n st _ p _ fun a1 n1 v1 H1 f1 p1 x1 i1 g1 =>
  h2 Bs po φ σ H1 n1 (st.af x1) _ p1 _ fun a2 n2 v2 H2 f2 p2 x2 i2 g2 =>
  h3 Bs po φ σ H2 n2 ((st.af x1).af x2) _ p2 _ fun a3 n3 v3 H3 f3 p3 x3 i3 g3 =>
  h4 Bs po φ σ H3 n3 (((st.af x1).af x2).af x3) _ p3 _ fun a4 n4 v4 H4 f4 p4 x4 i4 g4 =>
  h5 Bs po φ σ H4 n4 ((((st.af x1).af x2).af x3).af x4) _ p4 _ fun a5 n5 v5 H5 f5 p5 x5 i5 g5 =>
  h6 Bs po φ σ H5 n5 (((((st.af x1).af x2).af x3).af x4).af x5) _ p5 _ fun a6 n6 v6 H6 f6 p6 x6 i6 g6 =>
  h7 Bs po φ σ H6 n6 ((((((st.af x1).af x2).af x3).af x4).af x5).af x6) _ p6 _ fun a7 n7 v7 H7 f7 p7 x7 i7 g7 =>
  ⟨_, _, _, _, _, _, _, (0 : Nat), _, _, _, _, _, _, _, V.int 0, _, _, _, _, _, _, _, [], rfl, ⟨((((((i1.af g1.1 x2.fr).af g1.1 x3.fr).af g1.1 x4.fr).af g1.1 x5.fr).af g1.1 x6.fr).af g1.1 x7.fr), (((((i2.af g2.1 x3.fr).af g2.1 x4.fr).af g2.1 x5.fr).af g2.1 x6.fr).af g2.1 x7.fr), ((((i3.af g3.1 x4.fr).af g3.1 x5.fr).af g3.1 x6.fr).af g3.1 x7.fr), (((i4.af g4.1 x5.fr).af g4.1 x6.fr).af g4.1 x7.fr), ((i5.af g5.1 x6.fr).af g5.1 x7.fr), (i6.af g6.1 x7.fr), i7, Im.int _⟩, (((((((st.af x1).af x2).af x3).af x4).af x5).af x6).af x7).tabs, _, p7, fun r c v' H' fp pr af im nd hf => q r n7 v' H' fp pr (Af.trans (Af.trans (Af.trans (Af.trans (Af.trans (Af.trans (Af.trans x1 x2) x3) x4) x5) x6) x7) ⟨Fr.weak af.fr, af.tabs, fun a e z => keep_pot af z⟩) im (Fp.back (Af.trans (Af.trans (Af.trans (Af.trans (Af.trans (Af.trans x1 x2) x3) x4) x5) x6) x7).fr ⟨fun b hb => (((((((st.af x1).af x2).af x3).af x4).af x5).af x6).af x7).fresh_pot (hf b hb), fun _ => ⟨nd, hf⟩⟩)⟩
/-! ## bits -/
theorem re_bits {t : TE} {m : M Nat} {f : Bool} (h : RE K T t ρ f m) : RE K T (tBits t) ρ true (mapW lnF m) := fun Bs po φ σ H n st P p Q q => h Bs po φ σ H n st _ p _ fun k n1 v H1 fp pa a1 i1 g1 => by
  cases i1
  refine ⟨(k : Int), rfl, ?_⟩
  rw [bits_nat]
  exact q (lnF k) n1 _ H1 [] pa a1 (.int _) Fp.nil
/-- x & -x -/
theorem re_low {i : Nat} {k : Nat} (hi : ρ[i]? = some (.own (enc k))) : RE K T (tOp (rI0 fun i j => .int (Builtin.bitAnd i j)) (tVar i) (tUn (rU fun i => .int (-i)) (tVar i))) ρ true (reqW (k ≠ 0) (retW (2 ^ fpF k))) := fun Bs po φ σ H n st P p Q q => by
  obtain ⟨v, h1, h2, _⟩ := st.sl i _ hi
  generalize φ i = fp at h2
  cases h2
  refine ⟨_, h1, _, h1, (k : Int), rfl, (k : Int), -(k : Int), rfl, rfl, ?_⟩
  show Q (.int (Builtin.bitAnd (k : Int) (-(k : Int)))) H
  rw [and_neg p.1]
  exact q _ n _ H [] p.2 Af.refl (.int _) Fp.nil
/-! ## in lists of what may be None -/
def oV : Option Nat → V
  | none => .non
  | some n => .int (n : Int)
theorem ima_opts {H : Hp} : ∀ {xs : List (Option Nat)} {vs : List V} {fp : List Addr}, ImA K H vs (xs.map enc) fp → vs = xs.map oV
  | [], _, _, h => by cases h; rfl
  | x :: xs, _, _, h => by
    cases h with
    | cons a b q =>
      cases x with
      | none => cases a; rw [ima_opts b]; rfl
      | some x => cases a; rw [ima_opts b]; rfl
theorem in_opts (x : Option Nat) : ∀ xs : List (Option Nat), inV (oV x) (xs.map oV) = decide (x ∈ xs)
  | [] => rfl
  | y :: ys => by
    have ih := in_opts x ys
    unfold inV at ih ⊢
    rw [List.map_cons, List.any_cons, ih]
    have e : eqV (oV y) (oV x) = decide (x = y) := by
      cases x with
      | none => cases y <;> rfl
      | some x =>
        cases y with
        | none => rfl
        | some y =>
          show ((y : Int) == (x : Int)) = decide (some x = some y)
          by_cases z : x = y
          · subst z; simp
          · rw [decide_eq_false (fun h => z (Option.some.inj h))]
            exact beq_eq_false_iff_ne.mpr (by omega)
    rw [e]
    simp
theorem flat_opts (xs : List (Option Nat)) : (xs.map oV).all flatV = true := by
  rw [List.all_eq_true]
  intro v hv
  obtain ⟨o, _, rfl⟩ := List.mem_map.mp hv
  cases o <;> rfl
theorem im_oV {H : Hp} {v : V} {x : Option Nat} {fp : List Addr} (h : Im K H v (enc x) fp) : v = oV x := by
  cases x with
  | none => cases h; rfl
  | some x => cases h; rfl
theorem flat_oV (x : Option Nat) : flatV (oV x) = true := by cases x <;> rfl
theorem ow_inLO : OpW K (rIn K false) (fun (x : Option Nat) (xs : Lst (Option Nat)) => retW (decide (x ∈ xs.l))) := opw_pure fun x xs H v w fp fq i1 i2 n P p => by
  obtain rfl := im_oV i1
  obtain ⟨a, vs, _, rfl, hT, hA, _⟩ := im_lst i2
  obtain rfl := ima_opts hA
  exact ⟨_, _, p, .bl _, fun Q q => ⟨a, xs.l.map oV, rfl, .inl (.inl (.inl hT)), flat_oV x, flat_opts xs.l, by rw [in_opts]; exact q⟩⟩
theorem ow_ninLO : OpW K (rIn K true) (fun (x : Option Nat) (xs : Lst (Option Nat)) => retW (!decide (x ∈ xs.l))) := opw_pure fun x xs H v w fp fq i1 i2 n P p => by
  obtain rfl := im_oV i1
  obtain ⟨a, vs, _, rfl, hT, hA, _⟩ := im_lst i2
  obtain rfl := ima_opts hA
  exact ⟨_, _, p, .bl _, fun Q q => ⟨a, xs.l.map oV, rfl, .inl (.inl (.inl hT)), flat_oV x, flat_opts xs.l, by show Q (.bl (!inV _ _)) H; rw [in_opts]; exact q⟩⟩
theorem ow_inTO : OpW K (rIn K false) (fun (x : Option Nat) (xs : List (Option Nat)) => retW (decide (x ∈ xs))) := opw_pure fun x xs H v w fp fq i1 i2 n P p => by
  obtain rfl := im_oV i1
  obtain ⟨a, vs, rfl, hT, hA⟩ := im_tup i2
  obtain rfl := ima_opts hA
  exact ⟨_, _, p, .bl _, fun Q q => ⟨a, xs.map oV, rfl, .inr hT.q, flat_oV x, flat_opts xs, by rw [in_opts]; exact q⟩⟩
theorem ow_ninTO : OpW K (rIn K true) (fun (x : Option Nat) (xs : List (Option Nat)) => retW (!decide (x ∈ xs))) := opw_pure fun x xs H v w fp fq i1 i2 n P p => by
  obtain rfl := im_oV i1
  obtain ⟨a, vs, rfl, hT, hA⟩ := im_tup i2
  obtain rfl := ima_opts hA
  exact ⟨_, _, p, .bl _, fun Q q => ⟨a, xs.map oV, rfl, .inr hT.q, flat_oV x, flat_opts xs, by show Q (.bl (!inV _ _)) H; rw [in_opts]; exact q⟩⟩
/-! ## parts of pairs, threes, whatever is in them -/
theorem Fp.left {H : Hp} {po : Option Addr} {fr : Bool} {fp fq : List Addr} (h : Fp H po fr (fp ++ fq)) : Fp H po fr fp := ⟨fun b hb => h.1 b (List.mem_append_left _ hb), fun e => ⟨(List.nodup_append.mp (h.2 e).1).1, fun b hb => (h.2 e).2 b (List.mem_append_left _ hb)⟩⟩
theorem Fp.right {H : Hp} {po : Option Addr} {fr : Bool} {fp fq : List Addr} (h : Fp H po fr (fp ++ fq)) : Fp H po fr fq := ⟨fun b hb => h.1 b (List.mem_append_right _ hb), fun e => ⟨(List.nodup_append.mp (h.2 e).1).2.1, fun b hb => (h.2 e).2 b (List.mem_append_right _ hb)⟩⟩
theorem re_p1 {t : TE} {f : Bool} {m : M (α × β)} (h : RE K T t ρ f m) : RE K T (tOp (L2.rIxT K) t (tC (.int 0))) ρ f (mapW Prod.fst m) := fun Bs po φ σ H n st P p Q q => h Bs po φ σ H n st _ p _ fun x n1 v H1 fp pa a1 i1 g1 => by
  cases i1 with
  | tup e b =>
    obtain ⟨v1, v2, f1, f2, rfl, h1, h2, rfl⟩ := ima2 b
    exact ⟨_, _, _, _, rfl, rfl, e.q, rfl, q _ n1 _ H1 _ pa a1 h1 g1.left⟩
theorem re_p2 {t : TE} {f : Bool} {m : M (α × β)} (h : RE K T t ρ f m) : RE K T (tOp (L2.rIxT K) t (tC (.int 1))) ρ f (mapW Prod.snd m) := fun Bs po φ σ H n st P p Q q => h Bs po φ σ H n st _ p _ fun x n1 v H1 fp pa a1 i1 g1 => by
  cases i1 with
  | tup e b =>
    obtain ⟨v1, v2, f1, f2, rfl, h1, h2, rfl⟩ := ima2 b
    exact ⟨_, _, _, _, rfl, rfl, e.q, rfl, q _ n1 _ H1 _ pa a1 h2 g1.right⟩
theorem re_t31 {t : TE} {f : Bool} {m : M (T3 α β γ)} (h : RE K T t ρ f m) : RE K T (tOp (L2.rIxT K) t (tC (.int 0))) ρ f (mapW T3.a m) := fun Bs po φ σ H n st P p Q q => h Bs po φ σ H n st _ p _ fun x n1 v H1 fp pa a1 i1 g1 => by
  cases i1 with
  | tup e b =>
    obtain ⟨v1, v2, v3, f1, f2, f3, rfl, h1, h2, h3, rfl⟩ := ima3 b
    exact ⟨_, _, _, _, rfl, rfl, e.q, rfl, q _ n1 _ H1 _ pa a1 h1 g1.left⟩
theorem re_t32 {t : TE} {f : Bool} {m : M (T3 α β γ)} (h : RE K T t ρ f m) : RE K T (tOp (L2.rIxT K) t (tC (.int 1))) ρ f (mapW T3.b m) := fun Bs po φ σ H n st P p Q q => h Bs po φ σ H n st _ p _ fun x n1 v H1 fp pa a1 i1 g1 => by
  cases i1 with
  | tup e b =>
    obtain ⟨v1, v2, v3, f1, f2, f3, rfl, h1, h2, h3, rfl⟩ := ima3 b
    exact ⟨_, _, _, _, rfl, rfl, e.q, rfl, q _ n1 _ H1 _ pa a1 h2 g1.right.left⟩
theorem re_t33 {t : TE} {f : Bool} {m : M (T3 α β γ)} (h : RE K T t ρ f m) : RE K T (tOp (L2.rIxT K) t (tC (.int 2))) ρ f (mapW T3.c m) := fun Bs po φ σ H n st P p Q q => h Bs po φ σ H n st _ p _ fun x n1 v H1 fp pa a1 i1 g1 => by
  cases i1 with
  | tup e b =>
    obtain ⟨v1, v2, v3, f1, f2, f3, rfl, h1, h2, h3, rfl⟩ := ima3 b
    exact ⟨_, _, _, _, rfl, rfl, e.q, rfl, q _ n1 _ H1 _ pa a1 h3 g1.right.right⟩
/-! ## sorted(set(..)) of numbers -/
def ndp : List Nat → List Nat
  | [] => []
  | x :: xs => if x ∈ ndp xs then ndp xs else x :: ndp xs
theorem ndp_mem : ∀ (xs : List Nat) (z : Nat), z ∈ ndp xs ↔ z ∈ xs
  | [], z => Iff.rfl
  | x :: xs, z => by
    have ih := ndp_mem xs z
    unfold ndp
    by_cases h : x ∈ ndp xs
    · rw [if_pos h, ih, List.mem_cons]
      constructor
      · exact .inr
      · rintro (rfl | e)
        · exact ih.mp h
        · exact e
    · rw [if_neg h, List.mem_cons, ih, List.mem_cons]
theorem ndp_nodup : ∀ xs : List Nat, (ndp xs).Nodup
  | [] => List.nodup_nil
  | x :: xs => by
    have ih := ndp_nodup xs
    unfold ndp
    by_cases h : x ∈ ndp xs
    · rw [if_pos h]; exact ih
    · rw [if_neg h]; exact List.nodup_cons.mpr ⟨h, ih⟩
def ddN (xs : List Nat) : List Nat := sortN (ndp xs)
theorem cast_mem {k : Int} {L : List Nat} : (k ∈ L.map fun (n : Nat) => (n : Int)) ↔ ∃ n ∈ L, (n : Int) = k := by
  rw [List.mem_map]
theorem sorted_eq {xs ys : List Nat} (h1 : xs.Pairwise (· < ·)) (h2 : ys.Pairwise (· < ·)) (h : ∀ z, z ∈ xs ↔ z ∈ ys) : xs = ys := uniq_sorted (key := fun n : Nat => (n : Int)) (h1.imp fun {a b} h => by omega) (h2.imp fun {a b} h => by omega) h
/-- rising, each once -/
theorem dd_rise (xs : List Nat) : (ddN xs).Pairwise (· < ·) ∧ ∀ z, z ∈ ddN xs ↔ z ∈ xs := by
  have h1 : (ddN xs).Pairwise (· ≤ ·) := by
    have := List.pairwise_mergeSort (le := fun a b : Nat => decide (a ≤ b)) (fun a b c h1 h2 => by simp at *; omega) (fun a b => by simp; omega) (ndp xs)
    exact this.imp fun h => of_decide_eq_true h
  have h2 : (ddN xs).Perm (ndp xs) := List.mergeSort_perm _ _
  have h3 : (ddN xs).Nodup := h2.nodup_iff.mpr (ndp_nodup xs)
  refine ⟨?_, fun z => by rw [h2.mem_iff, ndp_mem]⟩
  exact (List.Pairwise.and h1 h3).imp fun {a b} h => by have := h.1; have := h.2; omega
theorem re_setsort {w : World} {t : TE} {m : M (Lst Nat)} {f : Bool} (h : RE K T t ρ f m) : RE K T (tCB (rSortedSet w) (tCons (tCB (rSetL K w) (tCons t tNil)) tNil)) ρ true (bindW m fun xs => reqW (xs.l.length < 64) (retW (⟨ddN xs.l⟩ : Lst Nat))) := fun Bs po φ σ H n st P p Q q => h Bs po φ σ H n st _ p _ fun xs n1 v H1 fp pa a1 i1 g1 => by
  obtain ⟨a, rfl, hT⟩ := im_nvL i1
  refine ⟨a, xs.l.map fun (n : Nat) => (n : Int), rfl, by rw [← nv_map]; exact .inl (.inl hT), by rw [List.length_map]; have := pa.1; omega, fun b c nb hc => ?_⟩
  rw [List.length_map] at hc
  refine ⟨b, _, c, rfl, upd_same, by have := pa.1; omega, fun ns p hpw hmem _ np => ?_⟩
  obtain ⟨zs, rfl, h1, h2⟩ := set_rise hpw hmem
  have e : zs = ddN xs.l := sorted_eq h1 (dd_rise _).1 fun z => by rw [h2, (dd_rise _).2]
  rw [← nv_map, e]
  have s := same_new (same_new (Same.refl H1) nb (o := SetO w b (fun j => decide (j ∈ xs.l.map fun (n : Nat) => (n : Int))) c)) np (o := .lst (nv (ddN xs.l)))
  have hp1 : H1 p = none := by
    cases z : H1 p with
    | none => rfl
    | some o =>
      have := same_new (Same.refl H1) nb (o := SetO w b (fun j => decide (j ∈ xs.l.map fun (n : Nat) => (n : Int))) c) p o z
      rw [np] at this
      cases this
  exact q _ n1 _ _ [p] pa.2 (a1.trans (Af.same s)) (nv_imL upd_same) (Fp.back a1.fr (fp_new (st.af a1) ⟨List.nodup_cons.mpr ⟨List.not_mem_nil, List.nodup_nil⟩, fun x hx => by rw [List.mem_singleton.mp hx]; exact hp1⟩))
theorem re_setsortT {w : World} {t : TE} {m : M (List Nat)} {f : Bool} (h : RE K T t ρ f m) : RE K T (tCB (rSortedSet w) (tCons (tCB (rSetU K w) (tCons t tNil)) tNil)) ρ true (bindW m fun xs => reqW (xs.length < 64) (retW (⟨ddN xs⟩ : Lst Nat))) := fun Bs po φ σ H n st P p Q q => h Bs po φ σ H n st _ p _ fun xs n1 v H1 fp pa a1 i1 g1 => by
  obtain ⟨a, rfl, hT⟩ := im_nv i1
  refine ⟨a, xs.map fun (n : Nat) => (n : Int), rfl, by rw [← nv_map]; exact hT.q, by rw [List.length_map]; have := pa.1; omega, fun b c nb hc => ?_⟩
  rw [List.length_map] at hc
  refine ⟨b, _, c, rfl, upd_same, by have := pa.1; omega, fun ns p hpw hmem _ np => ?_⟩
  obtain ⟨zs, rfl, h1, h2⟩ := set_rise hpw hmem
  have e : zs = ddN xs := sorted_eq h1 (dd_rise _).1 fun z => by rw [h2, (dd_rise _).2]
  rw [← nv_map, e]
  have s := same_new (same_new (Same.refl H1) nb (o := SetO w b (fun j => decide (j ∈ xs.map fun (n : Nat) => (n : Int))) c)) np (o := .lst (nv (ddN xs)))
  have hp1 : H1 p = none := by
    cases z : H1 p with
    | none => rfl
    | some o =>
      have := same_new (Same.refl H1) nb (o := SetO w b (fun j => decide (j ∈ xs.map fun (n : Nat) => (n : Int))) c) p o z
      rw [np] at this
      cases this
  exact q _ n1 _ _ [p] pa.2 (a1.trans (Af.same s)) (nv_imL upd_same) (Fp.back a1.fr (fp_new (st.af a1) ⟨List.nodup_cons.mpr ⟨List.not_mem_nil, List.nodup_nil⟩, fun x hx => by rw [List.mem_singleton.mp hx]; exact hp1⟩))
end
/-! ## round_bits by what is known of it -/
def rbdW (q h j : Nat) : M (List Nat) := fun n P => (0 < q ∧ q ≤ 60 ∧ h < 2 ^ q) ∧ P (rb q h j) n
end Bf
namespace Bf
open PySem PySem.Spec PyProof.Rows L2 LamX NdefX
/-! ## heaps that change at one list -/
structure AfX (K : PySem.W.Frag) (T : List (Addr × Str)) (D : Addr) (po : Option Addr) (H : Hp) (n : Nat) (H' : Hp) (n' : Nat) : Prop where
  keep : ∀ b o, b ≠ D → po ≠ some b → H b = some o → (∀ ps, o ≠ .tbl ps) → H' b = some o
  tup : ∀ b xs, TupR H b xs → TupR H' b xs
  tabs : Tabs T H → Tabs T H'
  pot : ∀ a, po = some a → Pot H a n → Pot H' a n'
section
variable {K : PySem.W.Frag} {T : List (Addr × Str)} {D : Addr} {po : Option Addr} {H H1 H' : Hp} {n n1 n' : Nat}
theorem AfX.of (a : Af K T po H n H' n') : AfX K T D po H n H' n' := ⟨fun b o _ h1 h2 h3 => a.fr.keep b o h1 h2 h3, a.fr.tup, a.tabs, a.pot⟩
theorem AfX.refl : AfX K T D po H n H n := AfX.of Af.refl
theorem AfX.trans (x : AfX K T D po H n H1 n1) (y : AfX K T D po H1 n1 H' n') : AfX K T D po H n H' n' := ⟨fun b o h0 h1 h2 h3 => y.keep b o h0 h1 (x.keep b o h0 h1 h2 h3) h3, fun b xs h => y.tup b xs (x.tup b xs h), fun t => y.tabs (x.tabs t), fun a e p => y.pot a e (x.pot a e p)⟩
theorem AfX.write {l l' : List V} (hp : po ≠ some D) (e : H D = some (.lst l)) : AfX K T D po H n (upd H D (.lst l')) n := by
  refine ⟨fun b o h0 _ h2 _ => by rw [upd_ne h0]; exact h2, fun b xs h => ?_, fun t => tabs_upd t e, fun a ea p => ?_⟩
  · unfold TupR at h ⊢
    rw [upd_ne (fun z => by rw [z, e] at h; cases h)]
    exact h
  · obtain ⟨x, y, z, hH, hh⟩ := p
    exact ⟨x, y, z, by rw [upd_ne (fun w => hp (by rw [← w]; exact ea))]; exact hH, hh⟩
/-- D is new -/
theorem Af.transX (x : Af K T po H n H1 n1) (nD : H D = none) (y : AfX K T D po H1 n1 H' n') : Af K T po H n H' n' := ⟨⟨fun b o h1 h2 h3 => y.keep b o (fun z => by rw [z, nD] at h2; cases h2) h1 (x.fr.keep b o h1 h2 h3) h3, fun b xs h => y.tup b xs (x.fr.tup b xs h)⟩, fun t => y.tabs (x.tabs t), fun a e p => y.pot a e (x.pot a e p)⟩
theorem Im.afX {v : V} {d : PyData} {fp : List Addr} (h : Im K H v d fp) (hp : ∀ b ∈ fp, b ≠ D ∧ po ≠ some b) (y : AfX K T D po H n H' n') : Im K H' v d fp := Im.stab y.tup d v fp h fun b hb o e m => y.keep b _ (hp b hb).1 (hp b hb).2 e m.tbl
theorem ImA.afX {vs : List V} {ds : List PyData} {fp : List Addr} (h : ImA K H vs ds fp) (hp : ∀ b ∈ fp, b ≠ D ∧ po ≠ some b) (y : AfX K T D po H n H' n') : ImA K H' vs ds fp := ImA.stab y.tup ds vs fp h fun b hb o e m => y.keep b _ (hp b hb).1 (hp b hb).2 e m.tbl
theorem ST.afX {Bs : Addr → HO → Prop} {ρ : List Sl} {φ : Nat → List Addr} {σ : L2.St} {l : List V} (h : ST K T Bs po ρ φ σ H n) (o : Out D ρ φ) (hB : ∀ u, ¬ Bs D u) (e : H D = some (.lst l)) (y : AfX K T D po H n H' n') : ST K T Bs po ρ φ σ H' n' where
  tabs := y.tabs h.tabs
  base := fun b u z => by
    obtain ⟨h1, h2, h3⟩ := h.base b u z
    exact ⟨y.keep b u (fun q => hB u (by rw [← q]; exact z)) h3 h1 h2, h2, h3⟩
  pot := fun p ep => y.pot p ep (h.pot p ep)
  len := h.len
  sl := fun i s es => by
    have z := h.sl i s es
    cases s with
    | any => trivial
    | pot => exact z
    | scr ns => exact z
    | lkd d =>
      obtain ⟨a, od, u, z1, z2, z3, z4⟩ := z
      refine ⟨a, od, u, z1, z2, y.keep a _ (fun q => by rw [q, e] at z3; cases z3) z2 z3 (fun ps w => nomatch w), ?_⟩
      rcases z4 with ⟨kvs, ps, y1, y2, y3, y4⟩ | ⟨kvs, ps, y1, y2, y3, y4⟩
      · exact .inl ⟨kvs, ps, y1, y2, y3, ImA.stab y.tup _ _ _ y4 fun b hb => absurd hb List.not_mem_nil⟩
      · exact .inr ⟨kvs, ps, y1, y2, y3, ImA.stab y.tup _ _ _ y4 fun b hb => absurd hb List.not_mem_nil⟩
    | bor d =>
      obtain ⟨v, z1, z2, z3⟩ := z
      exact ⟨v, z1, z2.afX (fun b hb => ⟨fun q => o i d (.inr es) (by rw [← q]; exact hb), (z3 b hb).1⟩) y, z3⟩
    | own d =>
      obtain ⟨v, z1, z2, z3, z4⟩ := z
      exact ⟨v, z1, z2.afX (fun b hb => ⟨fun q => o i d (.inl es) (by rw [← q]; exact hb), (z4 b hb).1⟩) y, z3, z4⟩
  dis := h.dis
end
/-- a walk, whatever is done in it -/
theorem walk_W {J : It} {n : Nat} {G : Hp → Prop} {Y : Nat → Hp → V → Hp → Prop} (w : Walk J n G Y) {H0 : Hp} {Body : V → Hp → (Hp → Prop) → Prop} {Qd : Hp → Prop} (Pv : Nat → Hp → Prop) (h0 : Pv 0 H0) (hG : ∀ i H, i ≤ n → Pv i H → G H) (hs : ∀ i x H H', i < n → Pv i H → Y i H x H' → Body x H' (Pv (i + 1))) (hd : ∀ H, Pv n H → Qd H) :
    ∃ W : Nat → Nat → Hp → Prop, (∃ m, W 0 m H0) ∧ ∀ i m H, W i m H → (J.stop i H ∧ Qd H) ∨ (J.go i H ∧ ∃ Nx : Hp → Prop, (∀ H', Nx H' → ∃ m', m' < m ∧ W (i + 1) m' H') ∧ ∀ x H', J.yld i H x H' → Body x H' Nx) := by
  refine ⟨fun i m H => i + m = n ∧ Pv i H, ⟨n, Nat.zero_add _, h0⟩, ?_⟩
  rintro i m H ⟨e, p⟩
  have g := hG i H (by omega) p
  cases m with
  | zero =>
    have e2 : i = n := e
    subst e2
    exact .inl ⟨w.stops H g, hd H p⟩
  | succ m =>
    refine .inr ⟨w.goes i H (by omega) g, Pv (i + 1), fun H' p' => ⟨m, Nat.lt_succ_self m, by omega, p'⟩, fun x H' y => ?_⟩
    exact hs i x H H' (by omega) p (w.yields i H x H' (by omega) g y)
section
variable {α β γ : Type}
def lc2W0 (mt : α → M Bool) (mi2 : α → M (List β)) (mt2 : α → β → M Bool) (me : α → β → M γ) : List α → List γ → M (Lst γ)
  | [], acc => retW ⟨acc⟩
  | x :: xs, acc => bindW (mt x) fun b => if b = true then bindW (mi2 x) fun ys => reqW (acc.length + ys.length ≤ sizeLine) (bindW (lcW (mt2 x) (me x) ys acc) fun r => lc2W0 mt mi2 mt2 me xs r.l) else lc2W0 mt mi2 mt2 me xs acc
theorem lc2W_ex (mt : α → M Bool) (mi2 : α → M (List β)) (mt2 : α → β → M Bool) (me : α → β → M γ) : ∃ g : List α → List γ → M (Lst γ), (∀ acc, g [] acc = retW ⟨acc⟩) ∧ ∀ x xs acc, g (x :: xs) acc = bindW (mt x) fun b => if b = true then bindW (mi2 x) fun ys => reqW (acc.length + ys.length ≤ sizeLine) (bindW (lcW (mt2 x) (me x) ys acc) fun r => g xs r.l) else g xs acc := ⟨lc2W0 mt mi2 mt2 me, fun _ => rfl, fun _ _ _ => rfl⟩
/-- sealed -/
noncomputable def lc2W (mt : α → M Bool) (mi2 : α → M (List β)) (mt2 : α → β → M Bool) (me : α → β → M γ) : List α → List γ → M (Lst γ) := Classical.choose (lc2W_ex mt mi2 mt2 me)
theorem lc2W_nil {mt : α → M Bool} {mi2 : α → M (List β)} {mt2 : α → β → M Bool} {me : α → β → M γ} {acc : List γ} : lc2W mt mi2 mt2 me [] acc = retW ⟨acc⟩ := (Classical.choose_spec (lc2W_ex mt mi2 mt2 me)).1 acc
theorem lc2W_cons {mt : α → M Bool} {mi2 : α → M (List β)} {mt2 : α → β → M Bool} {me : α → β → M γ} {x : α} {xs : List α} {acc : List γ} : lc2W mt mi2 mt2 me (x :: xs) acc = bindW (mt x) fun b => if b = true then bindW (mi2 x) fun ys => reqW (acc.length + ys.length ≤ sizeLine) (bindW (lcW (mt2 x) (me x) ys acc) fun r => lc2W mt mi2 mt2 me xs r.l) else lc2W mt mi2 mt2 me xs acc := (Classical.choose_spec (lc2W_ex mt mi2 mt2 me)).2 x xs acc
end
section
variable {K : PySem.W.Frag} {T : List (Addr × Str)} {ρ : List Sl}
variable {α β γ δ : Type} [Enc α] [Enc β] [Enc γ] [Enc δ]
theorem drop_at {α : Type} {xs : List α} {i : Nat} {a : α} (hi : i < xs.length) (ha : xs[i]? = some a) : xs.drop i = a :: xs.drop (i + 1) := by
  rw [List.drop_eq_getElem_cons hi]
  congr 1
  exact Option.some.inj ((List.getElem?_eq_getElem hi).symm.trans ha)
theorem re_lc2 [Pu γ] {wi wi1 : TI} {g g1 : TG} {tt tt1 : TT} {te : TE} {vs vs1 ts ts1 : List Nat} {mi : M (List α)} {mt : α → M Bool} {mi2 : α → M (List β)} {mt2 : α → β → M Bool} {me : α → β → M γ} {ρw : List Sl} {ρx ρv : α → List Sl} {ρy : α → β → List Sl} {f : Bool}
    (hw : wipeR ρ vs = ρw) (hi : RI K T wi ρ mi) (hts : ∀ t ∈ ts, t ∈ vs) (hg : ∀ a, RG K T ts g a ρw (ρx a)) (ht : ∀ a, RT K T tt (ρx a) (mt a)) (hi2 : ∀ a, RI K T wi1 (ρx a) (mi2 a)) (hw1 : ∀ a, wipeR (ρx a) vs1 = ρv a) (hts1 : ∀ t ∈ ts1, t ∈ vs1) (hg1 : ∀ a b, RG K T ts1 g1 b (ρv a) (ρy a b))
    (ht1 : ∀ a b, RT K T tt1 (ρy a b) (mt2 a b)) (he : ∀ a b, RE K T te (ρy a b) f (me a b)) : RE K T (tLc2 wi g tt wi1 g1 tt1 te vs vs1) ρ true (bindW mi fun xs => lc2W mt mi2 mt2 me xs []) := fun Bs po φ σ H n st P p Q q =>
  hi Bs po φ σ H n st _ p _ fun xs n1 J H1 fi pa a1 ok hfp hfi D nD => by
    subst hw
    obtain ⟨⟨G, Y, w, g0, gs, gy⟩, hlst⟩ := ok
    have st1 := st.af a1
    have hDp : po ≠ some D := st1.fresh_pot fun o e => by rw [nD] at e; cases e
    have hDB : ∀ u, ¬ Bs D u := st1.fresh_bs fun o e => by rw [nD] at e; cases e
    have out1 : Out D ρ φ := Out.new st1 nD
    have sD : Same H1 (upd H1 D (.lst [])) := same_new (Same.refl H1) nD
    have hfD : ∀ b ∈ fi, b ≠ D := fun b hb e => by
      obtain ⟨l, hl⟩ := hlst b hb
      rw [e, nD] at hl
      cases hl
    -- what is gone through outside stands
    have keepG : ∀ HA HC nA, Af K T po H1 n1 HA nA → G HA → (∀ b ∈ fi, ∀ l, HA b = some (.lst l) → HC b = some (.lst l)) → (∀ b l, TupR HA b l → TupR HC b l) → G HC := fun HA HC nA afA gA' h1 h2 => gs HA HC h1 h2 (fun b hb => by
      obtain ⟨l, hl⟩ := hlst b hb
      exact ⟨l, hl, afA.fr.keep b _ (hfp b hb) hl fun ps z => nomatch z⟩) gA'
    refine walk_W w (fun i H' => ∃ (n' : Nat) (acc : List γ) (vs' : List V), Af K T po H1 n1 H' n' ∧ G H' ∧ H' D = some (.lst vs') ∧ ImA K H' vs' (acc.map enc) [] ∧ lc2W mt mi2 mt2 me (xs.drop i) acc n' P) ⟨n1, [], [], Af.same sD, gs H1 _ (fun b hb l e => sD b _ e) (fun b l e => sD _ _ e) (fun b hb => (by obtain ⟨l, hl⟩ := hlst b hb; exact ⟨l, hl, hl⟩)) g0, upd_same, .nil, by rw [List.drop_zero]; exact pa⟩ (fun i H' _ z => by obtain ⟨_, _, _, _, z, _⟩ := z; exact z) ?_ ?_
    · rintro i x HA HB hi' ⟨n', acc, vs', af, gA, eD, hA, pl⟩ hy
      obtain ⟨a, ha, sAB, imx⟩ := gy i HA x HB hi' gA hy
      have afB := af.trans (Af.same sAB)
      have stB := (st1.af afB).wipe vs
      rw [drop_at hi' ha, lc2W_cons] at pl
      refine hg a Bs po φ (L2.wipe σ vs) HB n' stB x [] imx List.nodup_nil (fun b hb => absurd hb List.not_mem_nil) _ fun σ' φ' stx hwp hout => ⟨(hwp vs hts).trans (wipe_wipe vs), ?_⟩
      have outx : Out D (ρx a) φ' := hout D (out1.wipe vs) List.not_mem_nil
      refine ht a Bs po φ' σ' HB n' stx _ pl _ fun b n2 HC pb a2 => ?_
      have eDB := sAB _ _ eD
      have eDC := a2.fr.keep D _ hDp eDB fun ps z => nomatch z
      have gC : G HC := keepG HA HC n' af gA (fun b hb l e => a2.fr.keep b _ (hfp b hb) (sAB _ _ e) fun ps z => nomatch z) fun b l e => a2.fr.tup b l (sAB _ _ e)
      have hAC := (hA.same sAB).af (po := po) (fun b hb => absurd hb List.not_mem_nil) a2.fr
      cases b with
      | false => exact (if_neg (by decide)).mpr ⟨n2, acc, vs', afB.trans a2, gC, eDC, hAC, pb⟩
      | true =>
        refine (if_pos rfl).mpr ?_
        have stC := stx.af a2
        refine hi2 a Bs po φ' σ' HC n2 stC _ pb _ fun ys n3 J1 H4 fi2 pc a3 ok1 hfp2 hfi2 => ?_
        obtain ⟨⟨G1, Y1, w1, g01, gs1, gy1⟩, hlst1⟩ := ok1
        have eD4 := a3.fr.keep D _ hDp eDC fun ps z => nomatch z
        have hA4 := hAC.af (po := po) (fun b hb => absurd hb List.not_mem_nil) a3.fr
        have st4 := stC.af a3
        have af4 := (afB.trans a2).trans a3
        have g4 : G H4 := keepG HC H4 n2 (afB.trans a2) gC (fun b hb l e => a3.fr.keep b _ (hfp b hb) e fun ps z => nomatch z) fun b l e => a3.fr.tup b l e
        have hfD2 : ∀ b ∈ fi2, b ≠ D := fun b hb e => by
          rcases hfi2 b hb with ⟨o, ho⟩ | hf
          · exact hDB o (by rw [← e]; exact ho)
          · obtain ⟨ps, z⟩ := hf _ (by rw [e]; exact eDC)
            cases z
        refine walk_W w1 (fun j H' => ∃ (n' : Nat) (acc' : List γ) (vs'' : List V), AfX K T D po H4 n3 H' n' ∧ G H' ∧ G1 H' ∧ H' D = some (.lst vs'') ∧ ImA K H' vs'' (acc'.map enc) [] ∧ acc'.length ≤ acc.length + j ∧ lcW (mt2 a) (me a) (ys.drop j) acc' n' (fun r n => lc2W mt mi2 mt2 me (xs.drop (i + 1)) r.l n P)) ⟨n3, acc, vs', AfX.refl, g4, g01, eD4, hA4, Nat.le_refl _, by rw [List.drop_zero]; exact pc.2⟩ (fun i H' _ z => by obtain ⟨_, _, _, _, _, z, _⟩ := z; exact z) ?_ ?_
        · rintro j y H5 H6 hj ⟨n5, acc5, vs5, ax5, g5, g15, eD5, hA5, hl5, pl5⟩ hy1
          obtain ⟨b, hb, s56, imy⟩ := gy1 j H5 y H6 hj g15 hy1
          have ax6 := ax5.trans (AfX.of (Af.same s56))
          have st6 := (st4.afX outx hDB eD4 ax6).wipe vs1
          rw [hw1 a] at st6
          have out6 : Out D (ρv a) φ' := by rw [← hw1 a]; exact outx.wipe vs1
          rw [drop_at hj hb, lcW_cons] at pl5
          refine hg1 a b Bs po φ' (L2.wipe σ' vs1) H6 n5 st6 y [] imy List.nodup_nil (fun b hb => absurd hb List.not_mem_nil) _ fun σ3 φ3 st3 hwp3 hout3 => ⟨(hwp3 vs1 hts1).trans (wipe_wipe vs1), ?_⟩
          refine ht1 a b Bs po φ3 σ3 H6 n5 st3 _ pl5 _ fun c n6 H7 pb7 a7 => ?_
          have eD7 := a7.fr.keep D _ hDp (s56 _ _ eD5) fun ps z => nomatch z
          have ax7 := ax6.trans (AfX.of a7)
          have hA7 := (hA5.same s56).af (po := po) (fun b hb => absurd hb List.not_mem_nil) a7.fr
          have keep1 : ∀ HC, (∀ b ∈ fi2, ∀ l, H5 b = some (.lst l) → HC b = some (.lst l)) → (∀ b l, TupR H5 b l → TupR HC b l) → G1 HC := fun HC h1 h2 => gs1 H5 HC h1 h2 (fun b hb => by
            obtain ⟨l, hl⟩ := hlst1 b hb
            exact ⟨l, hl, ax5.keep b _ (hfD2 b hb) (hfp2 b hb) hl fun ps z => nomatch z⟩) g15
          have g7 : G H7 := keepG H5 H7 n5 (af4.transX nD ax5) g5 (fun b hb l e => a7.fr.keep b _ (hfp b hb) (s56 _ _ e) fun ps z => nomatch z) fun b l e => a7.fr.tup b l (s56 _ _ e)
          have g17 : G1 H7 := keep1 H7 (fun b hb l e => a7.fr.keep b _ (hfp2 b hb) (s56 _ _ e) fun ps z => nomatch z) fun b l e => a7.fr.tup b l (s56 _ _ e)
          cases c with
          | false => exact (if_neg (by decide)).mpr ⟨n6, acc5, vs5, ax7, g7, g17, eD7, hA7, by omega, pb7⟩
          | true =>
            refine (if_pos rfl).mpr (he a b Bs po φ3 σ3 H7 n6 (st3.af a7) _ pb7 _ fun u n8 v8 H8 fp8 pe8 a8 iu gu => ?_)
            have eD8 := a8.fr.keep D _ hDp eD7 fun ps z => nomatch z
            have z := Pu.pu iu
            subst z
            have hA8 := hA7.af (po := po) (fun b hb => absurd hb List.not_mem_nil) a8.fr
            have hl := hA5.len
            rw [List.length_map] at hl
            have wr := AfX.write (K := K) (T := T) (n := n8) (l' := vs5 ++ [v8]) hDp eD8
            have ax9 := (ax7.trans (AfX.of a8)).trans wr
            refine ⟨vs5, eD8, by rw [hl]; have := pc.1; omega, n8, acc5 ++ [u], vs5 ++ [v8], ax9, ?_, ?_, upd_same, ?_, by rw [List.length_append, List.length_singleton]; omega, pe8⟩
            · refine keepG H7 _ n6 (af4.transX nD ax7) g7 (fun b hb l e => ?_) fun b l e => wr.tup b l (a8.fr.tup b l e)
              rw [upd_ne (hfD b hb)]
              exact a8.fr.keep b _ (hfp b hb) e fun ps z => nomatch z
            · refine keep1 _ (fun b hb l e => ?_) fun b l e => wr.tup b l (a8.fr.tup b l (a7.fr.tup b l (s56 _ _ e)))
              rw [upd_ne (hfD2 b hb)]
              exact a8.fr.keep b _ (hfp2 b hb) (a7.fr.keep b _ (hfp2 b hb) (s56 _ _ e) fun ps z => nomatch z) fun ps z => nomatch z
            · rw [List.map_append]
              exact ImA.stab wr.tup _ _ _ (hA8.app (.cons iu .nil rfl)) fun b hb => absurd hb List.not_mem_nil
        · rintro H5 ⟨n5, acc5, vs5, ax5, g5, _, eD5, hA5, hl5, pl5⟩
          rw [List.drop_length, lcW_nil] at pl5
          exact ⟨n5, acc5, vs5, af4.transX nD ax5, g5, eD5, hA5, pl5⟩
    · rintro HA ⟨n', acc, vs', af, gA, eD, hA, pl⟩
      rw [List.drop_length, lc2W_nil] at pl
      exact q ⟨acc⟩ n' _ HA [D] pl (a1.trans af) (.lst eD hA rfl) (Fp.back a1.fr (fp_new st1 ⟨List.nodup_cons.mpr ⟨List.not_mem_nil, List.nodup_nil⟩, fun x hx => by rw [List.mem_singleton.mp hx]; exact nD⟩))
end
end Bf
namespace Bf
open PySem PySem.Spec PyProof.Rows L2
def topS (i : Nat) : Stmt := PySem.Challenge.pw_beatferry_k85_whole_whoever_is_silent.main.body.getD i (.Pass ⟨0, 0, 0, 0⟩)
abbrev sSpl : Stmt := topS 1
abbrev sTth : Stmt := topS 2
abbrev sOly : Stmt := topS 3
abbrev sIow : Stmt := topS 4
abbrev sTur : Stmt := topS 5
abbrev sFip : Stmt := topS 6
abbrev sLap : Stmt := topS 7
abbrev sRai : Stmt := topS 13
abbrev sInv : Stmt := topS 14
abbrev sVal : Stmt := topS 16
abbrev sVas : Stmt := topS 17
abbrev sWr : Stmt := topS 18
abbrev sTg : Stmt := topS 19
abbrev sRt : Stmt := topS 20
abbrev sLet : Stmt := topS 22
abbrev sCam : Stmt := topS 23
abbrev sTlb : Stmt := topS 24
abbrev sX26 : Stmt := topS 26
abbrev sHab : Stmt := topS 27
abbrev sArq : Stmt := topS 28
abbrev sRbd : Stmt := topS 29
abbrev sAcr : Stmt := topS 31
abbrev sCrs : Stmt := topS 32
abbrev sTel : Stmt := topS 33
abbrev sPot : Stmt := topS 35
abbrev sTake : Stmt := topS 36
abbrev sOf : Stmt := topS 37
abbrev sFi : Stmt := topS 38
abbrev sNu : Stmt := topS 39
abbrev sOri : Stmt := topS 40
abbrev sLot : Stmt := topS 41
abbrev sLri : Stmt := topS 42
abbrev sJri : Stmt := topS 43
abbrev sX44 : Stmt := topS 44
abbrev sLaw : Stmt := topS 44
abbrev sHas : Stmt := topS 27
abbrev sBits : Stmt := topS 26
abbrev sArc : Stmt := topS 28
abbrev sRound : Stmt := topS 29
theorem scPot : FnScope ["_law_script", "_law_nth", "_law_cell", "_law_great", "_law_mixed"] ["_law_script", "_law_nth"] (defScope sPot) := ⟨rfl, rfl, rfl, by decide +kernel, rfl, by decide +kernel, by decide +kernel⟩
theorem scTake : FnScope ["_law_pot", "_law_size", "_law_digit", "_law_primes", "_law_prime", "_law_drawn", "_law_last"] ["_law_pot", "_law_size"] (defScope sTake) := ⟨rfl, rfl, rfl, by decide +kernel, rfl, by decide +kernel, by decide +kernel⟩
section
variable {P : Program} {w : World} {K : PySem.W.Frag} {mg : Str → Option Value} {base : Heap} {f fT fO fF : Addr} {fd fdT fdO fdF : FuncData} {k : Nat}
/-! ### pot -/
def spPot (K : PySem.W.Frag) : Sp := fun vs H Q _ => ∃ (a : Addr) (ns : List Int) (k : Nat), vs = [.ref a, .int k] ∧ SqL K H a (ns.map V.int) ∧ ns.length ≤ 63 ∧ k ≤ 100 ∧
  ∀ H' p, Same H H' → H p = none → Pot H' p 0 → Q (.ref p) H'
theorem ok_pot (F : Fun K "_law_urn" "_law_urn" sPot f fd) (ml : mg "len" = none) (ma : mg "abs" = none) (mi : mg "int" = none) : FnOk P w K mg base CX0 (k + 1) f fd ["_law_script", "_law_nth"] (spPot K) := by
  refine F.ok scPot (fun vs H Q E h => ?_) (fun cdv A outer s H vs Q E hr h => ?_)
  · obtain ⟨a, ns, k, rfl, _⟩ := h
    rfl
  · obtain ⟨a, ns, k, rfl, hS, hl, hk, q⟩ := h
    refine ⟨_, pss_cons (ps_set (i := 2) scPot.nd rfl (.inl rfl) (pe_ifExp (pt_cmpR op_lt (pv 1) (pe_callB call_len_seq (by rfl) ml PySem.boot_len (pa_cons (pv 0) pa_nil)) (nomark _)) (pe_ix ix_list (pv 0) (pv 1) (fun _ _ => rfl)) pe_int))
      (pss_cons (ps_set (i := 3) scPot.nd rfl (.inl rfl) (pe_op op_mul (pe_op op_mod (pe_callB call_abs (by rfl) ma (by decide +kernel) (pa_cons (pv 2) pa_nil)) (pe_op op_mulW (pe_op op_mulW (pe_op op_pow pe_int pe_int) (pe_op op_pow pe_int pe_int)) (pe_op op_pow pe_int pe_int)))
        (pe_callTy call_int1 (by rfl) mi (by decide +kernel) (pa_cons (pe_cmpR op_ge (pe_callB call_abs (by rfl) ma (by decide +kernel) (pa_cons (pv 2) pa_nil)) (pe_op op_pow pe_int pe_int) (nomark _)) pa_nil))))
      (pss_cons (ps_set (i := 4) scPot.nd rfl (.inl rfl) (pe_op op_add (pe_op op_add (pe_op op_add (pe_op op_mul (pe_op op_mod (pv 2) pe_int) pe_int) (pe_op op_mul (pe_op op_mul pe_int (pv 1)) (pv 1))) (pe_op op_mul pe_int (pv 1))) pe_int))
      (pss_one (ps_ret (pe_lst (pa_cons (pv 3) (pa_cons (pe_op op_mod (pv 4) pe_int) (pa_cons pe_int pa_nil)))))))), ?_⟩
    have fin : ∀ (x y : Int), 0 ≤ x → 0 ≤ y → y < 2305843009213693952 → ∀ p, H p = none → Q (.ref p) (upd H p (.lst [.int x, .int y, .int 0])) := fun x y h1 h2 h3 p np =>
      q _ p (same_new (Same.refl H) np) np ⟨x, y, 0, upd_same, h1, h2, h3, by omega, by omega⟩
    refine rd_ifI (decide ((k : Int) < ((ns.map V.int).length : Int))) (fun _ => True) ?_ ?_ ?_ ?_
    · exact fun Q' h => ⟨.int k, rfl, .ref a, rfl, a, _, rfl, .inl hS, _, _, rfl, rfl, _, rfl, h⟩
    · intro e
      have z : (k : Int) < ((ns.map V.int).length : Int) := of_decide_eq_true e
      rw [List.length_map] at z
      have z2 : k < ns.length := by omega
      exact ⟨ns[k], trivial, fun Q' h => ⟨.ref a, rfl, .int k, rfl, a, _, _, _, rfl, rfl, hS, atI_nat (j := k) (by rw [List.getElem?_map, List.getElem?_eq_getElem z2]; rfl), h⟩⟩
    · exact fun _ => ⟨0, trivial, fun Q' h => h⟩
    intro c _
    dsimp only [gName, tSeq, tAsg]
    refine ⟨.int c, rfl, c, rfl, _, _, rfl, rfl, ⟨by decide, by decide, by decide⟩, _, _, rfl, rfl, ⟨by decide, by decide, by decide⟩, _, _, rfl, rfl, wide_mul (a := 200) (b := 200) (by decide +kernel) (by decide +kernel) (by decide) (by decide) (by decide), _, _, rfl, rfl, ⟨by decide, by decide, by decide⟩, _, _, rfl, rfl, wide_mul (a := 400) (b := 200) (by decide +kernel) (by decide +kernel) (by decide) (by decide) (by decide), _, _, rfl, rfl, (show (0 : Int) < (10 : Int) ^ (60 : Int).toNat * (10 : Int) ^ (60 : Int).toNat * (10 : Int) ^ (60 : Int).toNat by decide +kernel),
      .int c, rfl, c, rfl, _, _, rfl, rfl, ⟨by decide, by decide, by decide⟩, _, _, rfl, rfl, .inr ⟨_, rfl, ?_⟩⟩
    generalize decide ((10 : Int) ^ (18 : Int).toNat ≤ _) = bb
    have hpos : (0 : Int) ≤ (if c < 0 then -c else c) % ((10 : Int) ^ (60 : Int).toNat * (10 : Int) ^ (60 : Int).toNat * (10 : Int) ^ (60 : Int).toNat) := Int.emod_nonneg _ (by decide +kernel)
    refine ⟨_, _, rfl, rfl, .inr ?_, ?_⟩
    · cases bb <;> exact ⟨by decide, by decide⟩
    have hown : (0 : Int) ≤ (if c < 0 then -c else c) % ((10 : Int) ^ (60 : Int).toNat * (10 : Int) ^ (60 : Int).toNat * (10 : Int) ^ (60 : Int).toNat) * (if bb = true then 1 else 0) := Int.mul_nonneg hpos (by cases bb <;> decide)
    refine ⟨.int c, rfl, _, _, rfl, rfl, (show (0 : Int) < 2305843009213693951 by decide), _, _, rfl, rfl, .inr ⟨by decide, by decide⟩, .int k, rfl, _, _, rfl, rfl, .inl ⟨by decide, by decide⟩, .int k, rfl, _, _, rfl, rfl, .inr ⟨by omega, by omega⟩, _, _, rfl, rfl, .int k, rfl, _, _, rfl, rfl, .inl ⟨by decide, by decide⟩, _, _, rfl, rfl, _, _, rfl, rfl, ?_⟩
    refine ⟨_, rfl, _, rfl, _, _, rfl, rfl, (show (0 : Int) < 2305843009213693921 by decide), (by show 3 ≤ sizeLine; decide), fun p np => ?_⟩
    refine fin _ _ hown ?_ ?_ p np
    · exact Int.emod_nonneg _ (by decide)
    · exact Int.lt_trans (Int.emod_lt_of_pos _ (by decide)) (by decide)
/-! ### take -/
theorem primes8 (n : Int) (h0 : 0 ≤ n) (h : n < 8) : ∃ v : Int, atI [V.int 2147483647, .int 2147483629, .int 2147483587, .int 2147483579, .int 2147483563, .int 2147483549, .int 2147483543, .int 2147483497] n = some (.int v) ∧ 0 < v ∧ v ≤ 2147483647 := by
  obtain ⟨m, rfl⟩ := Int.eq_ofNat_of_zero_le h0
  match m, h with
  | 0, _ => exact ⟨_, rfl, by decide, by decide⟩
  | 1, _ => exact ⟨_, rfl, by decide, by decide⟩
  | 2, _ => exact ⟨_, rfl, by decide, by decide⟩
  | 3, _ => exact ⟨_, rfl, by decide, by decide⟩
  | 4, _ => exact ⟨_, rfl, by decide, by decide⟩
  | 5, _ => exact ⟨_, rfl, by decide, by decide⟩
  | 6, _ => exact ⟨_, rfl, by decide, by decide⟩
  | 7, _ => exact ⟨_, rfl, by decide, by decide⟩
def spTake : Sp := fun vs H Q _ => ∃ (a : Addr) (n m : Nat), vs = [.ref a, .int n] ∧ 0 < n ∧ n < 2305843009213693952 ∧ Pot H a m ∧ m < 100000 ∧ ∀ (r : Nat) H', r < n → Keeps a H H' → Pot H' a (m + 1) → Q (.int r) H'
theorem ok_take (F : Fun K "_law_take" "_law_take" sTake f fd) : FnOk P w K mg base CX0 (k + 1) f fd ["_law_pot", "_law_size"] spTake := by
  refine F.ok scTake (fun vs H Q E h => ?_) (fun cdv A outer s H vs Q E hr h => ?_)
  · obtain ⟨a, n, m, rfl, _⟩ := h
    rfl
  · obtain ⟨a, n, m, rfl, hn, hn2, ⟨x, y, z, hH, hx, hy, hy2, hz, hz2⟩, hm, q⟩ := h
    refine ⟨_, pss_cons (ps_if (pt_cmpR op_gt (pe_ix ix_list (pv 0) pe_int (fun _ _ => rfl)) pe_int (nomark _))
        (pss_cons (ps_set (i := 2) scTake.nd rfl (.inl rfl) (pe_op op_mod (pe_ix ix_list (pv 0) pe_int (fun _ _ => rfl)) (pv 1)))
        (pss_cons (ps_asg (pe_op op_fdivW (pe_ix ix_list (pv 0) pe_int (fun _ _ => rfl)) (pv 1)) (pg_sub (pv 0) pe_int set_list))
        (pss_one (ps_ret (pv 2))))) pss_nil)
      (pss_cons (ps_asg (pe_op op_add (pe_ix ix_list (pv 0) pe_int (fun _ _ => rfl)) pe_int) (pg_sub (pv 0) pe_int set_list))
      (pss_cons (ps_set (i := 3) scTake.nd rfl (.inl rfl) (pe_lst (pa_cons pe_int (pa_cons pe_int (pa_cons pe_int (pa_cons pe_int (pa_cons pe_int (pa_cons pe_int (pa_cons pe_int (pa_cons pe_int pa_nil))))))))))
      (pss_cons (ps_set (i := 4) scTake.nd rfl (.inl rfl) (pe_ix ix_list (pv 3) (pe_op op_mod (pe_ix ix_list (pv 0) pe_int (fun _ _ => rfl)) pe_int) (fun _ _ => rfl)))
      (pss_cons (ps_set (i := 5) scTake.nd rfl (.inl rfl) (pe_op op_add (pe_op op_mod (pe_op op_mod (pe_op op_add (pe_ix ix_list (pv 0) pe_int (fun _ _ => rfl)) (pe_op op_mul (pe_op op_mul pe_int (pe_ix ix_list (pv 0) pe_int (fun _ _ => rfl))) (pe_ix ix_list (pv 0) pe_int (fun _ _ => rfl)))) (pe_op op_mul (pv 4) (pv 4))) (pv 4)) pe_int))
      (pss_cons (ps_set (i := 6) scTake.nd rfl (.inl rfl) (pe_op op_fdiv (pe_op op_mod (pe_op op_mul (pe_op op_mod (pe_op op_mul (pv 5) (pe_op op_add (pe_op op_mod (pv 5) pe_int) (pe_ix ix_list (pv 0) pe_int (fun _ _ => rfl)))) (pv 4)) pe_int) (pv 4)) pe_int))
      (pss_cons (ps_if (pt_cmpR op_gt (pv 1) (pe_op op_pow pe_int pe_int) (nomark _)) (pss_one (ps_set (i := 6) scTake.nd rfl (.inl rfl) (pe_op op_mod (pe_op op_pow (pe_op op_add (pv 6) pe_int) pe_int) (pe_op op_add (pe_op op_pow pe_int pe_int) pe_int)))) pss_nil)
      (pss_one (ps_ret (pe_op op_mod (pv 6) (pv 1)))))))))), ?_⟩
    have hL : SqL K H a [.int x, .int y, .int z] := .inl (.inl hH)
    have hnI : (0 : Int) < (n : Int) := by omega
    refine ⟨.ref a, rfl, a, _, _, .int x, rfl, rfl, hL, rfl, _, _, rfl, rfl, _, rfl, ite2 (fun e => ?_) (fun e => ?_)⟩
    · obtain ⟨r, er, hr2⟩ := nat_of (n := n) (Int.emod_nonneg x (Int.ne_of_gt hnI)) (Int.emod_lt_of_pos x hnI)
      refine ⟨.ref a, rfl, a, _, _, .int x, rfl, rfl, hL, rfl, .int n, rfl, _, _, rfl, rfl, hnI, ?_⟩
      refine ⟨.ref a, rfl, a, _, _, .int x, rfl, rfl, hL, rfl, .int n, rfl, _, _, rfl, rfl, wide_div (b := 61) hnI (by show (n : Int).natAbs < 2305843009213693952; omega) (by decide) (by decide), .ref a, rfl, a, _, _, 0, rfl, rfl, hH, rfl, .int (x % n), rfl, ?_⟩
      rw [er]
      exact q r _ hr2 (Keeps.refl a H).at ⟨x / n, y, z, upd_same, Int.ediv_nonneg hx (Int.le_of_lt hnI), hy, hy2, hz, by omega⟩
    · refine ⟨.ref a, rfl, a, _, _, .int z, rfl, rfl, hL, rfl, _, _, rfl, rfl, .ref a, rfl, a, _, _, 2, rfl, rfl, hH, rfl, (by show 8 ≤ sizeLine; decide), fun p np => ?_⟩
      obtain ⟨v, hv, hv0, hv1⟩ := primes8 ((z + 1) % 8) (Int.emod_nonneg _ (by decide)) (Int.emod_lt_of_pos _ (by decide))
      have hap : a ≠ p := fun e => by
        rw [← e, upd_same] at np
        cases np
      have hL2 : SqL K (upd (upd H a (.lst [.int x, .int y, .int (z + 1)])) p (.lst [V.int 2147483647, .int 2147483629, .int 2147483587, .int 2147483579, .int 2147483563, .int 2147483549, .int 2147483543, .int 2147483497])) a [.int x, .int y, .int (z + 1)] := .inl (.inl (by rw [upd_ne hap, upd_same]))
      refine ⟨.ref p, rfl, .ref a, rfl, a, _, _, .int (z + 1), rfl, rfl, hL2, rfl, _, _, rfl, rfl, (show (0 : Int) < 8 by decide), p, _, _, .int v, rfl, rfl, .inl (.inl upd_same), hv, ?_⟩
      have hv2 : (0 : Int) < v * v := Int.mul_pos hv0 hv0
      refine ⟨.ref a, rfl, a, _, _, .int y, rfl, rfl, hL2, rfl, .ref a, rfl, a, _, _, .int (z + 1), rfl, rfl, hL2, rfl, _, _, rfl, rfl, .inl ⟨by decide, by decide⟩, .ref a, rfl, a, _, _, .int (z + 1), rfl, rfl, hL2, rfl, _, _, rfl, rfl, .inr ⟨by omega, by omega⟩, _, _, rfl, rfl,
        .int v, rfl, .int v, rfl, _, _, rfl, rfl, .inl ⟨by omega, by omega⟩, _, _, rfl, rfl, hv2, .int v, rfl, _, _, rfl, rfl, hv0, _, _, rfl, rfl, ?_⟩
      have mE := Int.emod_nonneg ((y + 69621 * (z + 1) * (z + 1)) % (v * v)) (Int.ne_of_gt hv0)
      have mF := Int.emod_lt_of_pos ((y + 69621 * (z + 1) * (z + 1)) % (v * v)) hv0
      have hw : ∀ w : Int, 0 ≤ w % v ∧ w % v < 2147483648 := fun w => ⟨Int.emod_nonneg _ (Int.ne_of_gt hv0), by
        have := Int.emod_lt_of_pos w hv0
        omega⟩
      refine ⟨_, rfl, _, rfl, _, _, rfl, rfl, (show (0 : Int) < 1009 by decide), .ref a, rfl, a, _, _, .int (z + 1), rfl, rfl, hL2, rfl, _, _, rfl, rfl, _, _, rfl, rfl, .inl ⟨by omega, by omega⟩, .int v, rfl, _, _, rfl, rfl, hv0, _, _, rfl, rfl, .inr ⟨by decide, by decide⟩, .int v, rfl, _, _, rfl, rfl, hv0, _, _, rfl, rfl, ⟨by decide, by decide⟩, ?_⟩
      have hg := hw ((((y + 69621 * (z + 1) * (z + 1)) % (v * v) % v + 1) * (((y + 69621 * (z + 1) * (z + 1)) % (v * v) % v + 1) % 1009 + (z + 1))) % v * 48271)
      dsimp only [gName, tSeq, tAsg]
      refine rd_ifSet (decide ((10 : Int) ^ (7 : Int).toNat < (n : Int))) (fun u H' => H' = upd (upd H a (.lst [.int x, .int y, .int (z + 1)])) p (.lst [V.int 2147483647, .int 2147483629, .int 2147483587, .int 2147483579, .int 2147483563, .int 2147483549, .int 2147483543, .int 2147483497]) ∧ ∃ c : Int, u = .int c) ?_ ?_ ?_ ?_
      · exact fun Q' h => ⟨.int n, rfl, _, _, rfl, rfl, ⟨by decide, by decide, by decide⟩, _, _, rfl, rfl, _, rfl, h⟩
      · intro _ Q' hQ
        exact ⟨_, rfl, _, _, rfl, rfl, _, _, rfl, rfl, ⟨by decide, by decide, by omega⟩, _, _, rfl, rfl, ⟨by decide, by decide, by decide⟩, _, _, rfl, rfl, _, _, rfl, rfl, (show (0 : Int) < (10 : Int) ^ (40 : Int).toNat + 121 by decide +kernel), hQ _ _ ⟨rfl, _, rfl⟩⟩
      · exact fun _ => ⟨_, rfl, rfl, _, rfl⟩
      rintro u H' ⟨rfl, c, rfl⟩
      refine ⟨_, rfl, .int n, rfl, _, _, rfl, rfl, hnI, ?_⟩
      obtain ⟨r, er, hr2⟩ := nat_of (n := n) (Int.emod_nonneg c (Int.ne_of_gt hnI)) (Int.emod_lt_of_pos c hnI)
      show Q (.int (c % n)) _
      rw [er]
      refine q r _ hr2 ((Keeps.refl a H).at.new np) ⟨x, y, z + 1, by rw [upd_ne hap, upd_same], hx, hy, hy2, by omega, by omega⟩
end
/-! ### of -/
section
variable {P : Program} {w : World} {K : PySem.W.Frag} {mg : Str → Option Value} {base : Heap} {f fT fO fF : Addr} {fd fdT fdO fdF : FuncData} {k : Nat}
theorem scOf : FnScope ["_law_pot", "_law_some"] ["_law_pot", "_law_some"] (defScope sOf) := ⟨rfl, rfl, rfl, by decide +kernel, rfl, by decide +kernel, by decide +kernel⟩
def spOf (K : PySem.W.Frag) : Sp := fun vs H Q _ => ∃ (a b : Addr) (xs : List V) (m : Nat), vs = [.ref a, .ref b] ∧ (∀ H', Keeps a H H' → SqL K H' b xs) ∧ 0 < xs.length ∧ xs.length < 1073741824 ∧ Pot H a m ∧ m < 100000 ∧ ∀ v H', v ∈ xs → Keeps a H H' → Pot H' a (m + 1) → Q v H'
theorem ok_of (F : Fun K "_law_of" "_law_of" sOf f fd) (GT : FnOk P w K mg base CX0 1 fT fdT ["_law_pot", "_law_size"] spTake) (kT : PySem.W.keepIn K (.ref fT) = true) (bT : Binds K fdT ["_law_pot", "_law_size"] []) (gT : mg "_law_take" = some (.ref fT)) (ml : mg "len" = none) :
    FnOk P w K mg base CX0 2 f fd ["_law_pot", "_law_some"] (spOf K) := by
  refine F.ok scOf (fun vs H Q E h => ?_) (fun cdv A outer s H vs Q E hr h => ?_)
  · obtain ⟨a, b, xs, m, rfl, _⟩ := h
    rfl
  · obtain ⟨a, b, xs, m, rfl, hS, h0, h1, hp, hm, q⟩ := h
    refine ⟨_, pss_one (ps_ret (pe_ix ix_list (pv 1) (pe_call GT hr (by rfl) gT kT bT .nil pass0 (pa_cons (pv 0) (pa_cons (pe_callB call_len_seq (by rfl) ml PySem.boot_len (pa_cons (pv 1) pa_nil)) pa_nil))) (fun _ _ => rfl))), ?_⟩
    refine ⟨.ref b, rfl, .ref a, rfl, .ref b, rfl, b, xs, rfl, .inl (hS H (Keeps.refl a H)), a, xs.length, m, rfl, h0, by omega, hp, hm, fun r H' hr1 kp hp' => ?_⟩
    refine ⟨b, xs, r, xs[r], rfl, rfl, hS H' kp, atI_nat (List.getElem?_eq_getElem hr1), ?_⟩
    exact q _ H' (List.getElem_mem hr1) kp hp'
end

section
variable {P : Program} {w : World} {K : PySem.W.Frag} {mg : Str → Option Value} {base : Heap} {f : Addr} {fd : FuncData} {k : Nat} {T : List (Addr × Str)}
theorem ad_take (F : FnOk P w K mg base CX0 k f fd ["_law_pot", "_law_size"] spTake) : FnOk P w K mg base CX0 k f fd ["_law_pot", "_law_size"] (spP1 K T takeW) := F.imp fun vs H Q E h => by
  obtain ⟨q, n, a, v, f1, rfl, ⟨i1, j1⟩, tb, pp, P0, ⟨⟨h1, h2, h3⟩, hd⟩, hq⟩ := h
  cases i1
  exact ⟨q, a, n, rfl, h1, h2, pp, h3, fun r H' lr kk p' => hq r (n + 1) _ H' [] (hd r lr) (af_keeps pp kk p') (.int _) List.nodup_nil fun b hb => absurd hb List.not_mem_nil⟩
theorem ad_of {α : Type} [Enc α] [Pu α] (F : FnOk P w K mg base CX0 k f fd ["_law_pot", "_law_some"] (spOf K)) : FnOk P w K mg base CX0 k f fd ["_law_pot", "_law_some"] (spP1 K T (ofW (α := α))) := F.imp fun vs H Q E h => by
  obtain ⟨q, n, xs, v, f1, rfl, ⟨i1, j1⟩, tb, pp, P0, ⟨⟨h1, h2, h3⟩, hd⟩, hq⟩ := h
  obtain ⟨a, ws, fq, rfl, hT, hA, e⟩ := im_lst i1
  have z := ima_pu hA
  subst z e
  have hl := hA.len
  rw [List.length_map] at hl
  have hne : a ≠ q := j1 a List.mem_cons_self
  refine ⟨q, a, ws, n, rfl, fun H' kk => .inl (.inl (kk _ _ hne hT)), by omega, by omega, pp, h3, fun v H' hv kk p' => ?_⟩
  obtain ⟨x, hx, im⟩ := ima_mem hA hv
  have af := af_keeps (K := K) (T := T) pp kk p'
  exact hq x (n + 1) _ H' [] (hd x hx) af (im.af (po := some q) (fun b hb => absurd hb List.not_mem_nil) af.fr) List.nodup_nil fun b hb => absurd hb List.not_mem_nil
theorem urn_pot {Bs : Addr → HO → Prop} {ρ : List Sl} {φ : Nat → List Addr} {σ : L2.St} {H : Hp} {n : Nat} {ns : List Int} {kk i2 : Nat} {Q : VK} (st : ST K T Bs none ρ φ σ H n) (hi : ρ[0]? = some (.scr ns)) (hk : ρ[i2]? = some (.own (enc kk))) (c : ns.length ≤ 63 ∧ kk ≤ 100)
    (q : ∀ a H', Same H H' → H a = none → Pot H' a 0 → Q (.ref a) H') : tCall (spPot K) [] E0 (tCons (tVar 0) (tCons (tVar i2) tNil)) σ H Q := by
  obtain ⟨a, h1, h2⟩ := scr_sql st hi
  obtain ⟨v, e1, e2, _⟩ := st.sl i2 _ hk
  generalize φ i2 = fp at e2
  cases e2
  exact ⟨_, h1, _, e1, a, ns, kk, rfl, h2, c.1, c.2, fun H' p s np pt => q p H' s np pt⟩
end
theorem scHas : FnScope ["hand", "k"] ["hand", "k"] (defScope sHas) := ⟨rfl, rfl, rfl, by decide +kernel, rfl, by decide +kernel, by decide +kernel⟩
theorem scBits : FnScope ["hand", "k"] ["hand"] (defScope sBits) := ⟨rfl, rfl, rfl, by decide +kernel, rfl, by decide +kernel, by decide +kernel⟩
section
variable {P : Program} {w : World} {K : PySem.W.Frag} {mg : Str → Option Value} {base : Heap} {f fH fA fB fR : Addr} {fd fdH fdA fdB fdR : FuncData} {k : Nat}
def spHas : Sp := fun vs H Q _ => ∃ h k : Nat, vs = [.int h, .int k] ∧ Q (.bl (h.testBit k)) H
theorem ok_has (F : Fun K "has_bit" "has_bit" sHas f fd) : FnOk P w K mg base CX0 (k + 1) f fd ["hand", "k"] spHas := by
  refine F.ok scHas (fun vs H Q E h => ?_) (fun cdv A outer s H vs Q E hr h => ?_)
  · obtain ⟨a, n, rfl, _⟩ := h
    rfl
  · obtain ⟨h, k, rfl, q⟩ := h
    refine ⟨_, pss_one (ps_ret (pe_cmpR op_eq (pe_op op_odd (pe_op op_shrNN (pv 0) (pv 1)) pe_int) pe_int (nomark _))), ?_⟩
    refine ⟨.int h, rfl, .int k, rfl, h, k, rfl, rfl, h / 2 ^ k, rfl, rfl, rfl, ?_⟩
    have e : decide (V.int ((h / 2 ^ k % 2 : Nat) : Int) = V.int 1) = h.testBit k := by
      rw [Nat.testBit_eq_decide_div_mod_eq, dec_int]
      by_cases z : h / 2 ^ k % 2 = 1
      · rw [decide_eq_true z, z]; rfl
      · rw [decide_eq_false z]
        exact beq_eq_false_iff_ne.mpr (by omega)
    show Q (.bl (decide (V.int ((h / 2 ^ k % 2 : Nat) : Int) = V.int 1))) H
    rw [e]
    exact q
/-! ### bits -/
def spBits (K : PySem.W.Frag) : Sp := fun vs H Q _ => ∃ h : Nat, vs = [.int h] ∧ h < 2 ^ 60 ∧ ∀ H' p, Same H H' → H p = none → H' p = some (.tup (nv (bl 60 h))) → Q (.ref p) H'
theorem ok_bits (F : Fun K "bits" "bits" sBits f fd) (GH : FnOk P w K mg base CX0 1 fH fdH ["hand", "k"] spHas) (kH : PySem.W.keepIn K (.ref fH) = true) (bH : Binds K fdH ["hand", "k"] []) (gH : mg "has_bit" = some (.ref fH)) (mt : mg "tuple" = none) (mr : mg "range" = none) :
    FnOk P w K mg base CX0 2 f fd ["hand"] (spBits K) := by
  refine F.ok scBits (fun vs H Q E h => ?_) (fun cdv A outer s H vs Q E hr h => ?_)
  · obtain ⟨a, rfl, _⟩ := h
    rfl
  · obtain ⟨h, rfl, h60, q⟩ := h
    refine ⟨_, pss_one (ps_ret (pe_callTy call_tuple_of (by rfl) mt (by decide +kernel) (pa_cons (pe_lc (own := [("k", 1)]) (g := gName 1) (by rfl) scBits.nd (pi_range1 (by rfl) mr (pa_cons (pe_bits (pv 0)) pa_nil))
      (blkOk_by (own := [("k", 1)]) (N := ["hand", "k"]) (sc := defScope sBits) (by decide +kernel)) (fun _ _ _ _ _ => pg_name (i := 1) scBits.nd rfl (Or.inl rfl))
      (fun _ _ _ _ _ => pts_one (pt_val (pe_call GH hr (by rfl) gH kH bH .nil pass0 (pa_cons (pv 0) (pa_cons (pv 1) pa_nil))))) (fun _ _ _ _ _ => pv 1)) pa_nil))), ?_⟩
    have hn : Builtin.Int.intBits (h : Int) ≤ 60 := intBits_le60 h60
    have hb := intBits_nat (h := h)
    refine ⟨.int h, rfl, h, rfl, _, rfl, (by omega), (by omega), fun D nD => lc_range (lo := 0) (n := Builtin.Int.intBits (h : Int)) (fun i H' => Same H H' ∧ H' D = some (.lst (nv (bl i h)))) ⟨same_new (Same.refl H) nD, upd_same⟩ ?_ ?_⟩
    · rintro i H1 hi ⟨sm, eD⟩
      refine ⟨rfl, .int h, rfl, .int (0 + i), rfl, h, i, by rw [Int.zero_add]; rfl, _, rfl, ite2 (fun e => ?_) (fun e => ?_)⟩
      · refine ⟨_, rfl, _, eD, ?_, fun b o z => ?_, ?_⟩
        · rw [nv_len]
          exact Nat.lt_of_le_of_lt (Nat.le_trans (bl_len i h) (by omega : i ≤ 60)) (by decide)
        · have e1 := sm b o z
          rw [upd_ne (ne_of_none z nD)]
          exact e1
        · rw [upd_same, bl_succ, e, Int.zero_add]
          simp [nv]
      · refine ⟨sm, ?_⟩
        rw [eD, bl_succ]
        simp [e]
    · rintro H1 ⟨sm, eD⟩
      refine ⟨D, _, rfl, .inl ⟨.inl (.inl eD), fun p np => ?_⟩⟩
      refine q _ p (same_new sm np) (sm.free np) ?_
      rw [upd_same, bl_eq hb h60]
/-! ### arc -/
theorem scArc : FnScope ["q", "j", "k"] ["q", "j", "k"] (defScope sArc) := ⟨rfl, rfl, rfl, by decide +kernel, rfl, by decide +kernel, by decide +kernel⟩
theorem scRound : FnScope ["q", "hand", "j"] ["q", "hand", "j"] (defScope sRound) := ⟨rfl, rfl, rfl, by decide +kernel, rfl, by decide +kernel, by decide +kernel⟩
def spArc : Sp := fun vs H Q _ => ∃ q j k : Int, vs = [.int q, .int j, .int k] ∧ 0 < q ∧ Q (.int ((k - j) % q)) H
theorem ok_arc (F : Fun K "arc" "arc" sArc f fd) : FnOk P w K mg base CX0 (k + 1) f fd ["q", "j", "k"] spArc := by
  refine F.ok scArc (fun vs H Q E h => ?_) (fun cdv A outer s H vs Q E hr h => ?_)
  · obtain ⟨a, b, c, rfl, _⟩ := h
    rfl
  · obtain ⟨q, j, k, rfl, hq, h⟩ := h
    refine ⟨_, pss_one (ps_ret (pe_op op_mod (pe_op op_sub (pv 2) (pv 1)) (pv 0))), ?_⟩
    exact ⟨.int k, rfl, .int j, rfl, _, _, rfl, rfl, .int q, rfl, _, _, rfl, rfl, hq, h⟩
/-! ### round_bits -/
open LamX NdefX in
def spRound (K : PySem.W.Frag) (Pt : Addr) : Sp := fun vs H Q _ => ∃ q h j : Nat, vs = [.int q, .int h, .int j] ∧ 0 < q ∧ q ≤ 60 ∧ h < 2 ^ q ∧ Tabs [(Pt, lamNm)] H ∧ ∀ H' p, ExtN H H' → Tabs [(Pt, lamNm)] H' → H' p = some (.tup (nv (rb q h j))) → Q (.ref p) H'
theorem cast_pairs : ∀ {ns : List Int} {ks : List Nat}, ns.Perm (ks.map fun (n : Nat) => (n : Int)) → ∃ rs : List Nat, ns = rs.map (fun (n : Nat) => (n : Int)) ∧ rs.Perm ks := fun {ns ks} hp => by
  refine ⟨ns.map Int.toNat, ?_, ?_⟩
  · rw [List.map_map]
    refine ((List.map_id ns).symm.trans (List.map_congr_left fun x hx => ?_))
    obtain ⟨n, _, rfl⟩ := List.mem_map.mp (hp.mem_iff.mp hx)
    rfl
  · have h := hp.map Int.toNat
    rw [List.map_map] at h
    have e : ks.map (Int.toNat ∘ fun (n : Nat) => (n : Int)) = ks := (List.map_congr_left fun x _ => rfl).trans (List.map_id ks)
    rw [e] at h
    exact h
open LamX NdefX in
theorem ok_round {c Pt : Addr} (F : FunT K "round_bits" sRound f fd c) (TB : TabB base mg c Pt) (GA : FnOk P w K mg base CX0 1 fA fdA ["q", "j", "k"] spArc) (kA : PySem.W.keepIn K (.ref fA) = true) (bA : Binds K fdA ["q", "j", "k"] []) (gA : mg "arc" = some (.ref fA))
    (GB : FnOk P w K mg base CX0 2 fB fdB ["hand"] (spBits K)) (kB : PySem.W.keepIn K (.ref fB) = true) (bB : Binds K fdB ["hand"] []) (gB : mg "bits" = some (.ref fB)) (mt : mg "tuple" = none) (ms : mg "sorted" = none) :
    FnOk P w K mg base CX0 5 f fd ["q", "hand", "j"] (spRound K Pt) := by
  refine F.ok scRound (fun vs H Q E h => ?_) (fun A outer s H vs Q E hr h => ?_)
  · obtain ⟨a, b, c, rfl, _⟩ := h
    rfl
  · obtain ⟨q, h, j, rfl, hq, hq6, hh, hT, fin⟩ := h
    have h60 : h < 2 ^ 60 := Nat.lt_of_lt_of_le hh (Nat.pow_le_pow_right (by decide) hq6)
    refine ⟨_, pss_one (ps_ret (pe_callTy call_tuple_of (by rfl) mt (by decide +kernel) (pa_cons (pe_sortLam (T := [(Pt, lamNm)]) (x := "k") (fr := ["q", "j"]) (N := ["k", "q", "j"]) (js := [0, 2]) (k := 1)
      (pa_cons (pe_call GB (hr.mono (by decide)) (by rfl) gB kB bB .nil pass0 (pa_cons (pv 1) pa_nil)) pa_nil) (by rfl) ms TB rfl (List.mem_singleton.mpr rfl) (fun p hp _ => by rw [List.mem_singleton.mp hp]; rfl) rfl
      (nscope_by (by decide +kernel)) (ndef_free (sc := defScope sRound) (fr := ["q", "j"]) (by decide +kernel)) (fun ok => Caps.made ok (ndef_free (sc := defScope sRound) (fr := ["q", "j"]) (by decide +kernel)) (ndef_fr (fr := ["q", "j"]) (sc := defScope sRound) (by decide +kernel)) rfl) (fun _ _ _ _ _ _ => rfl) hr
      (fun f c' A outer z G hr2 => pe_call GA hr2 (by rfl) gA kA bA .nil pass0 (pa_cons (pv 1) (pa_cons (pv 2) (pa_cons (pv 0) pa_nil))))) pa_nil))), ?_⟩
    refine ⟨.int h, rfl, h, rfl, h60, fun H1 b s1 nb hb => ?_⟩
    have e0 : nv (bl 60 h) = ((bl 60 h).map fun (n : Nat) => (n : Int)).map V.int := by
      rw [List.map_map]
      rfl
    refine ⟨b, (bl 60 h).map fun (n : Nat) => (n : Int), fun n => (n - (j : Int)) % (q : Int), rfl, by rw [← e0]; exact .inl (.inl hb), hT.ext s1, fun n hn Q' hQ => ?_, fun H2 p ns' eN T2 np hp hs => ?_⟩
    · exact ⟨.int q, rfl, .int j, rfl, .int n, rfl, q, j, n, rfl, by omega, hQ⟩
    · obtain ⟨rs, rfl, hperm⟩ := cast_pairs hp
      have e1 : rs = rb q h j := rb_eq hq6 hh hperm (by rw [List.pairwise_map] at hs; exact hs)
      refine ⟨p, _, rfl, .inl ⟨.inl (.inl upd_same), fun l nl => ?_⟩⟩
      have x2 : ExtN H (upd H2 p (.lst ((rs.map fun (n : Nat) => (n : Int)).map V.int))) := ext_new ((ExtN.of s1).trans eN) np
      refine fin _ l (ext_new x2 nl) (tabs_new (tabs_new T2 np) nl) ?_
      rw [upd_same, List.map_map, e1]
      rfl
end
section
variable {P : Program} {w : World} {K : PySem.W.Frag} {mg : Str → Option Value} {base : Heap} {f : Addr} {fd : FuncData} {k : Nat}
theorem ad_round {Pt : Addr} (F : FnOk P w K mg base CX0 k f fd ["q", "hand", "j"] (spRound K Pt)) : FnOk P w K mg base CX0 k f fd ["q", "hand", "j"] (spW3 K [(Pt, lamNm)] rbdW) := F.imp fun vs H Q E h => by
  obtain ⟨q, h, j, v1, v2, v3, f1, f2, f3, rfl, ⟨i1, i2, i3⟩, tb, P0, ⟨⟨h1, h2, h3⟩, hp⟩, hq⟩ := h
  cases i1
  cases i2
  cases i3
  exact ⟨q, h, j, rfl, h1, h2, h3, tb, fun H' p x t e => hq (rb q h j) 0 _ H' [] hp ⟨Fr.ext x, fun _ => t, fun a e z => nomatch e⟩ (nv_im e) List.nodup_nil fun b hb => absurd hb List.not_mem_nil⟩
end

end Bf
namespace Bf
open PySem PySem.Spec PyProof.Rows L2 LamX NdefX
noncomputable section
variable {P : Program} {w : World} {K : PySem.W.Frag} {mg : Str → Option Value} {base : Heap} {f : Addr} {fd : FuncData} {k : Nat} {T : List (Addr × Str)}
theorem rk_crs_3_0123 {K : PySem.W.Frag} {T : List (Addr × Str)} {ρ : List Sl} {α1 α2 α3 α4 R : Type} [Enc α1] [Enc α2] [Enc α3] [Enc α4] [Enc R] {f : α1 → α2 → α3 → α4 → M R} {E : XK} {t1 : TE} {m1 : M α1} {b1 : Bool} (h1 : RE K T t1 ρ b1 m1) {t2 : TE} {m2 : M α2} {b2 : Bool} (h2 : RE K T t2 ρ b2 m2) {t3 : TE} {m3 : M α3} {b3 : Bool} (h3 : RE K T t3 ρ b3 m3) {t4 : TE} {m4 : M α4} {b4 : Bool} (h4 : RE K T t4 ρ b4 m4) : RE K T (tCallK (spW4 K T f) (gN 3 [0, 1, 2, 3]) E (tCons t1 (tCons t2 (tCons t3 tNil))) (tCons t4 tNil)) ρ true (c4W m1 m2 m3 m4 fun a1 a2 a3 a4 => pureW (f a1 a2 a3 a4)) := fun Bs po φ σ H n st P p Q q =>
  h1 Bs po φ σ H n st _ p _ fun a1 n1 v1 H1 f1 p1 x1 i1 g1 =>
  h2 Bs po φ σ H1 n1 (st.af x1) _ p1 _ fun a2 n2 v2 H2 f2 p2 x2 i2 g2 =>
  h3 Bs po φ σ H2 n2 ((st.af x1).af x2) _ p2 _ fun a3 n3 v3 H3 f3 p3 x3 i3 g3 =>
  h4 Bs po φ σ H3 n3 (((st.af x1).af x2).af x3) _ p3 _ fun a4 n4 v4 H4 f4 p4 x4 i4 g4 =>
  ⟨_, _, _, _, _, _, _, _, _, _, _, _, rfl, ⟨(((i1.af g1.1 x2.fr).af g1.1 x3.fr).af g1.1 x4.fr), ((i2.af g2.1 x3.fr).af g2.1 x4.fr), (i3.af g3.1 x4.fr), i4⟩, ((((st.af x1).af x2).af x3).af x4).tabs, _, p4, fun r c v' H' fp pr af im nd hf => q r n4 v' H' fp pr (Af.trans (Af.trans (Af.trans (Af.trans x1 x2) x3) x4) ⟨Fr.weak af.fr, af.tabs, fun a e z => keep_pot af z⟩) im (Fp.back (Af.trans (Af.trans (Af.trans x1 x2) x3) x4).fr ⟨fun b hb => ((((st.af x1).af x2).af x3).af x4).fresh_pot (hf b hb), fun _ => ⟨nd, hf⟩⟩)⟩
theorem rk_tel_3_0123 {K : PySem.W.Frag} {T : List (Addr × Str)} {ρ : List Sl} {α1 α2 α3 α4 R : Type} [Enc α1] [Enc α2] [Enc α3] [Enc α4] [Enc R] {f : α1 → α2 → α3 → α4 → M R} {E : XK} {t1 : TE} {m1 : M α1} {b1 : Bool} (h1 : RE K T t1 ρ b1 m1) {t2 : TE} {m2 : M α2} {b2 : Bool} (h2 : RE K T t2 ρ b2 m2) {t3 : TE} {m3 : M α3} {b3 : Bool} (h3 : RE K T t3 ρ b3 m3) {t4 : TE} {m4 : M α4} {b4 : Bool} (h4 : RE K T t4 ρ b4 m4) : RE K T (tCallK (spW4 K T f) (gN 3 [0, 1, 2, 3]) E (tCons t1 (tCons t2 (tCons t3 tNil))) (tCons t4 tNil)) ρ true (c4W m1 m2 m3 m4 fun a1 a2 a3 a4 => pureW (f a1 a2 a3 a4)) := fun Bs po φ σ H n st P p Q q =>
  h1 Bs po φ σ H n st _ p _ fun a1 n1 v1 H1 f1 p1 x1 i1 g1 =>
  h2 Bs po φ σ H1 n1 (st.af x1) _ p1 _ fun a2 n2 v2 H2 f2 p2 x2 i2 g2 =>
  h3 Bs po φ σ H2 n2 ((st.af x1).af x2) _ p2 _ fun a3 n3 v3 H3 f3 p3 x3 i3 g3 =>
  h4 Bs po φ σ H3 n3 (((st.af x1).af x2).af x3) _ p3 _ fun a4 n4 v4 H4 f4 p4 x4 i4 g4 =>
  ⟨_, _, _, _, _, _, _, _, _, _, _, _, rfl, ⟨(((i1.af g1.1 x2.fr).af g1.1 x3.fr).af g1.1 x4.fr), ((i2.af g2.1 x3.fr).af g2.1 x4.fr), (i3.af g3.1 x4.fr), i4⟩, ((((st.af x1).af x2).af x3).af x4).tabs, _, p4, fun r c v' H' fp pr af im nd hf => q r n4 v' H' fp pr (Af.trans (Af.trans (Af.trans (Af.trans x1 x2) x3) x4) ⟨Fr.weak af.fr, af.tabs, fun a e z => keep_pot af z⟩) im (Fp.back (Af.trans (Af.trans (Af.trans x1 x2) x3) x4).fr ⟨fun b hb => ((((st.af x1).af x2).af x3).af x4).fresh_pot (hf b hb), fun _ => ⟨nd, hf⟩⟩)⟩
theorem rk_spl_3_0123 {K : PySem.W.Frag} {T : List (Addr × Str)} {ρ : List Sl} {α1 α2 α3 α4 R : Type} [Enc α1] [Enc α2] [Enc α3] [Enc α4] [Enc R] {f : α1 → α2 → α3 → α4 → M R} {E : XK} {t1 : TE} {m1 : M α1} {b1 : Bool} (h1 : RE K T t1 ρ b1 m1) {t2 : TE} {m2 : M α2} {b2 : Bool} (h2 : RE K T t2 ρ b2 m2) {t3 : TE} {m3 : M α3} {b3 : Bool} (h3 : RE K T t3 ρ b3 m3) {t4 : TE} {m4 : M α4} {b4 : Bool} (h4 : RE K T t4 ρ b4 m4) : RE K T (tCallK (spW4 K T f) (gN 3 [0, 1, 2, 3]) E (tCons t1 (tCons t2 (tCons t3 tNil))) (tCons t4 tNil)) ρ true (c4W m1 m2 m3 m4 fun a1 a2 a3 a4 => pureW (f a1 a2 a3 a4)) := fun Bs po φ σ H n st P p Q q =>
  h1 Bs po φ σ H n st _ p _ fun a1 n1 v1 H1 f1 p1 x1 i1 g1 =>
  h2 Bs po φ σ H1 n1 (st.af x1) _ p1 _ fun a2 n2 v2 H2 f2 p2 x2 i2 g2 =>
  h3 Bs po φ σ H2 n2 ((st.af x1).af x2) _ p2 _ fun a3 n3 v3 H3 f3 p3 x3 i3 g3 =>
  h4 Bs po φ σ H3 n3 (((st.af x1).af x2).af x3) _ p3 _ fun a4 n4 v4 H4 f4 p4 x4 i4 g4 =>
  ⟨_, _, _, _, _, _, _, _, _, _, _, _, rfl, ⟨(((i1.af g1.1 x2.fr).af g1.1 x3.fr).af g1.1 x4.fr), ((i2.af g2.1 x3.fr).af g2.1 x4.fr), (i3.af g3.1 x4.fr), i4⟩, ((((st.af x1).af x2).af x3).af x4).tabs, _, p4, fun r c v' H' fp pr af im nd hf => q r n4 v' H' fp pr (Af.trans (Af.trans (Af.trans (Af.trans x1 x2) x3) x4) ⟨Fr.weak af.fr, af.tabs, fun a e z => keep_pot af z⟩) im (Fp.back (Af.trans (Af.trans (Af.trans x1 x2) x3) x4).fr ⟨fun b hb => ((((st.af x1).af x2).af x3).af x4).fresh_pot (hf b hb), fun _ => ⟨nd, hf⟩⟩)⟩
theorem rk_cam_3_0123 {K : PySem.W.Frag} {T : List (Addr × Str)} {ρ : List Sl} {α1 α2 α3 α4 R : Type} [Enc α1] [Enc α2] [Enc α3] [Enc α4] [Enc R] {f : α1 → α2 → α3 → α4 → M R} {E : XK} {t1 : TE} {m1 : M α1} {b1 : Bool} (h1 : RE K T t1 ρ b1 m1) {t2 : TE} {m2 : M α2} {b2 : Bool} (h2 : RE K T t2 ρ b2 m2) {t3 : TE} {m3 : M α3} {b3 : Bool} (h3 : RE K T t3 ρ b3 m3) {t4 : TE} {m4 : M α4} {b4 : Bool} (h4 : RE K T t4 ρ b4 m4) : RE K T (tCallK (spW4 K T f) (gN 3 [0, 1, 2, 3]) E (tCons t1 (tCons t2 (tCons t3 tNil))) (tCons t4 tNil)) ρ true (c4W m1 m2 m3 m4 fun a1 a2 a3 a4 => pureW (f a1 a2 a3 a4)) := fun Bs po φ σ H n st P p Q q =>
  h1 Bs po φ σ H n st _ p _ fun a1 n1 v1 H1 f1 p1 x1 i1 g1 =>
  h2 Bs po φ σ H1 n1 (st.af x1) _ p1 _ fun a2 n2 v2 H2 f2 p2 x2 i2 g2 =>
  h3 Bs po φ σ H2 n2 ((st.af x1).af x2) _ p2 _ fun a3 n3 v3 H3 f3 p3 x3 i3 g3 =>
  h4 Bs po φ σ H3 n3 (((st.af x1).af x2).af x3) _ p3 _ fun a4 n4 v4 H4 f4 p4 x4 i4 g4 =>
  ⟨_, _, _, _, _, _, _, _, _, _, _, _, rfl, ⟨(((i1.af g1.1 x2.fr).af g1.1 x3.fr).af g1.1 x4.fr), ((i2.af g2.1 x3.fr).af g2.1 x4.fr), (i3.af g3.1 x4.fr), i4⟩, ((((st.af x1).af x2).af x3).af x4).tabs, _, p4, fun r c v' H' fp pr af im nd hf => q r n4 v' H' fp pr (Af.trans (Af.trans (Af.trans (Af.trans x1 x2) x3) x4) ⟨Fr.weak af.fr, af.tabs, fun a e z => keep_pot af z⟩) im (Fp.back (Af.trans (Af.trans (Af.trans x1 x2) x3) x4).fr ⟨fun b hb => ((((st.af x1).af x2).af x3).af x4).fresh_pot (hf b hb), fun _ => ⟨nd, hf⟩⟩)⟩
/-! ### last_place -/
def lapB (some_ : Nat) : M (Ctl Nat Unit Unit) :=
  (bindW (b2W (mapW lnF (retW (some_ : Nat))) (retW (1 : Nat)) (fun a b : Nat => reqW (b ≤ a) (retW (a - b)))) fun r => retW (.ret r))
theorem lapW_ex : ∃ g : Nat → M Nat, ∀ some_, g some_ = outW (lapB some_) := ⟨fun some_ => outW (lapB some_), fun _ => rfl⟩
/-- sealed -/
def lapW : Nat → M Nat := Classical.choose lapW_ex
theorem lapW_eq (some_ : Nat) : lapW some_ = outW (lapB some_) := Classical.choose_spec lapW_ex some_
theorem lapW_fn : lapW = fun some_ => outW (lapB some_) := funext fun some_ => lapW_eq some_
theorem scLap : FnScope ["some"] ["some"] (defScope sLap) := ⟨rfl, rfl, rfl, by decide +kernel, rfl, by decide +kernel, by decide +kernel⟩
theorem ok_lap (F : Fun K "last_place" "last_place" sLap f fd) (b : Bls mg) : FnOk P w K mg base CX0 1 f fd ["some"] (spW1 K T lapW) := by
  refine F.ok scLap (fun vs H Q E h => ?_) (fun cdv A outer s H vs Q E hr h => ?_)
  · exact spW1_len h
  · refine ⟨_, (pss_cons (ps_ret (pe_op op_subN (pe_bits (pv 0)) pe_int))
      pss_nil), w1_run (N := ["some"]) psl_own (mB := lapB) (ρ := fun (some_ : Nat) => [.own (enc (some_ : Nat))]) (ρn := fun _ => []) (ρb := fun _ => []) (C := fun _ => True) (fun _ => rfl) trivial (fun (some_ : Nat) => 
  (rb_ret (re_op ow_subN (re_bits (re_v (i := 0) (a := (some_ : Nat)) rfl)) (re_nat 1)))) (by rw [lapW_fn] at h; exact h)⟩
/-! ### first_place -/
def fipB (some_ : Nat) : M (Ctl Nat Unit Unit) :=
  (bindW (b2W (mapW lnF (reqW (some_ ≠ 0) (retW (2 ^ fpF some_)))) (retW (1 : Nat)) (fun a b : Nat => reqW (b ≤ a) (retW (a - b)))) fun r => retW (.ret r))
theorem fipW_ex : ∃ g : Nat → M Nat, ∀ some_, g some_ = outW (fipB some_) := ⟨fun some_ => outW (fipB some_), fun _ => rfl⟩
/-- sealed -/
def fipW : Nat → M Nat := Classical.choose fipW_ex
theorem fipW_eq (some_ : Nat) : fipW some_ = outW (fipB some_) := Classical.choose_spec fipW_ex some_
theorem fipW_fn : fipW = fun some_ => outW (fipB some_) := funext fun some_ => fipW_eq some_
theorem scFip : FnScope ["some"] ["some"] (defScope sFip) := ⟨rfl, rfl, rfl, by decide +kernel, rfl, by decide +kernel, by decide +kernel⟩
theorem ok_fip (F : Fun K "first_place" "first_place" sFip f fd) (b : Bls mg) : FnOk P w K mg base CX0 1 f fd ["some"] (spW1 K T fipW) := by
  refine F.ok scFip (fun vs H Q E h => ?_) (fun cdv A outer s H vs Q E hr h => ?_)
  · exact spW1_len h
  · refine ⟨_, (pss_cons (ps_ret (pe_op op_subN (pe_bits (pe_op op_and (pv 0) (pe_un un_neg (pv 0)))) pe_int))
      pss_nil), w1_run (N := ["some"]) psl_own (mB := fipB) (ρ := fun (some_ : Nat) => [.own (enc (some_ : Nat))]) (ρn := fun _ => []) (ρb := fun _ => []) (C := fun _ => True) (fun _ => rfl) trivial (fun (some_ : Nat) => 
  (rb_ret (re_op ow_subN (re_bits (re_low (i := 0) (k := some_) rfl)) (re_nat 1)))) (by rw [fipW_fn] at h; exact h)⟩
/-! ### turned -/
def turB (q : Nat) (some_ : Nat) (j : Nat) : M (Ctl Nat Unit Unit) :=
  (bindW (b2W (retW (j : Nat)) (retW (q : Nat)) (fun a b : Nat => reqW (0 < b) (retW (a % b)))) fun (places_1 : Nat) =>
  (bindW (b2W (retW (some_ : Nat)) (b2W (b2W (retW (1 : Nat)) (retW (places_1 : Nat)) (fun a b : Nat => reqW (a = 1 ∧ b ≤ 134217727) (retW (2 ^ b)))) (retW (1 : Nat)) (fun a b : Nat => reqW (b ≤ a) (retW (a - b)))) (fun a b : Nat => retW (a &&& b))) fun (passed_2 : Nat) =>
  (bindW (b2W (b2W (retW (some_ : Nat)) (retW (places_1 : Nat)) (fun a b : Nat => retW (a / 2 ^ b))) (b2W (retW (passed_2 : Nat)) (b2W (retW (q : Nat)) (retW (places_1 : Nat)) (fun a b : Nat => reqW (b ≤ a) (retW (a - b)))) (fun a b : Nat => reqW (a < 2 ^ 64 ∧ b ≤ 1000000) (retW (a <<< b)))) (fun a b : Nat => retW (a ||| b))) fun r => retW (.ret r))))
theorem turW_ex : ∃ g : Nat → Nat → Nat → M Nat, ∀ q some_ j, g q some_ j = outW (turB q some_ j) := ⟨fun q some_ j => outW (turB q some_ j), fun _ _ _ => rfl⟩
/-- sealed -/
def turW : Nat → Nat → Nat → M Nat := Classical.choose turW_ex
theorem turW_eq (q : Nat) (some_ : Nat) (j : Nat) : turW q some_ j = outW (turB q some_ j) := Classical.choose_spec turW_ex q some_ j
theorem turW_fn : turW = fun q some_ j => outW (turB q some_ j) := funext fun q => funext fun some_ => funext fun j => turW_eq q some_ j
theorem scTur : FnScope ["q", "some", "j", "places", "passed"] ["q", "some", "j"] (defScope sTur) := ⟨rfl, rfl, rfl, by decide +kernel, rfl, by decide +kernel, by decide +kernel⟩
theorem ok_tur (F : Fun K "turned" "turned" sTur f fd) (b : Bls mg) : FnOk P w K mg base CX0 1 f fd ["q", "some", "j"] (spW3 K T turW) := by
  refine F.ok scTur (fun vs H Q E h => ?_) (fun cdv A outer s H vs Q E hr h => ?_)
  · exact spW3_len h
  · refine ⟨_, (pss_cons (ps_set (i := 3) scTur.nd rfl (.inl rfl) (pe_op op_modNN (pv 2) (pv 0)))
      (pss_cons (ps_set (i := 4) scTur.nd rfl (.inl rfl) (pe_op op_andN (pv 1) (pe_op op_subN (pe_op op_bit pe_int (pv 3)) pe_int)))
      (pss_cons (ps_ret (pe_op op_orN (pe_op op_shrNN (pv 1) (pv 3)) (pe_op op_shlN (pv 4) (pe_op op_subN (pv 0) (pv 3)))))
      pss_nil))), w3_run (N := ["q", "some", "j", "places", "passed"]) psl_own psl_own psl_own (mB := turB) (ρ := fun (q : Nat) (some_ : Nat) (j : Nat) => [.own (enc (q : Nat)), .own (enc (some_ : Nat)), .own (enc (j : Nat)), .any, .any]) (ρn := fun _ => []) (ρb := fun _ => []) (C := fun _ => True) (fun _ _ _ => rfl) trivial (fun (q : Nat) (some_ : Nat) (j : Nat) => 
  (rb_asg (ρ2 := fun (places_1 : Nat) => [.own (enc (q : Nat)), .own (enc (some_ : Nat)), .own (enc (j : Nat)), .own (enc (places_1 : Nat)), .any]) (re_op ow_modN (re_v (i := 2) (a := (j : Nat)) rfl) (re_v (i := 0) (a := (q : Nat)) rfl)) (fun (places_1 : Nat) => rg_name (i := 3) (show 3 < 5 by decide) rfl) (fun (places_1 : Nat) =>
  (rb_asg (ρ2 := fun (passed_2 : Nat) => [.own (enc (q : Nat)), .own (enc (some_ : Nat)), .own (enc (j : Nat)), .own (enc (places_1 : Nat)), .own (enc (passed_2 : Nat))]) (re_op ow_andN (re_v (i := 1) (a := (some_ : Nat)) rfl) (re_op ow_subN (re_op ow_bit (re_nat 1) (re_v (i := 3) (a := (places_1 : Nat)) rfl)) (re_nat 1))) (fun (passed_2 : Nat) => rg_name (i := 4) (show 4 < 5 by decide) rfl) (fun (passed_2 : Nat) =>
  (rb_ret (re_op ow_orN (re_op ow_shrN (re_v (i := 1) (a := (some_ : Nat)) rfl) (re_v (i := 3) (a := (places_1 : Nat)) rfl)) (re_op ow_shlN (re_v (i := 4) (a := (passed_2 : Nat)) rfl) (re_op ow_subN (re_v (i := 0) (a := (q : Nat)) rfl) (re_v (i := 3) (a := (places_1 : Nat)) rfl)))))))))) (by rw [turW_fn] at h; exact h)⟩
/-! ### only_tree -/
def olyB (q : Nat) (apart : Nat) (reached : Nat) : M (Ctl (Option Nat) Unit Unit) :=
  (bindW (b2W (retW (apart : Nat)) (retW (reached : Nat)) (fun a b : Nat => retW (a &&& b))) fun (common_1 : Nat) =>
  (bindW (b2W (retW (reached : Nat)) (retW (common_1 : Nat)) (fun a b : Nat => retW (a ^^^ b))) fun (beyond_2 : Nat) =>
  (bindW (b2W (retW (apart : Nat)) (retW (common_1 : Nat)) (fun a b : Nat => retW (a ^^^ b))) fun (lacking_3 : Nat) =>
  (bindW (b2W (retW (beyond_2 : Nat)) (retW (0 : Nat)) (fun a b : Nat => retW (!decide (a = b)))) fun B_ => seqW (if B_ = true then (bindW (mapW some (c1W (retW (beyond_2 : Nat)) fun A_1 => pureW (lapW A_1))) fun r => retW (.ret r)) else (retW (.nxt (() : Unit)))) fun (s_4 : Unit) =>
  (bindW (orW (b2W (retW (reached : Nat)) (retW (0 : Nat)) (fun a b : Nat => retW (decide (a = b)))) (b2W (retW (lacking_3 : Nat)) (retW (0 : Nat)) (fun a b : Nat => retW (decide (a = b))))) fun B_ => seqW (if B_ = true then (bindW (retW (none : (Option Nat))) fun r => retW (.ret r)) else (retW (.nxt (() : Unit)))) fun (s_5 : Unit) =>
  (bindW (c1W (retW (lacking_3 : Nat)) fun A_1 => pureW (lapW A_1)) fun (gap_6 : Nat) =>
  (bindW (mapW some (b2W (b2W (retW (gap_6 : Nat)) (c1W (c3W (retW (q : Nat)) (retW (reached : Nat)) (retW (gap_6 : Nat)) fun A_1 A_2 A_3 => pureW (turW A_1 A_2 A_3)) fun A_1 => pureW (fipW A_1)) (fun a b : Nat => retW (a + b))) (retW (q : Nat)) (fun a b : Nat => reqW (0 < b) (retW (a % b))))) fun r => retW (.ret r))))))))
theorem olyW_ex : ∃ g : Nat → Nat → Nat → M (Option Nat), ∀ q apart reached, g q apart reached = outW (olyB q apart reached) := ⟨fun q apart reached => outW (olyB q apart reached), fun _ _ _ => rfl⟩
/-- sealed -/
def olyW : Nat → Nat → Nat → M (Option Nat) := Classical.choose olyW_ex
theorem olyW_eq (q : Nat) (apart : Nat) (reached : Nat) : olyW q apart reached = outW (olyB q apart reached) := Classical.choose_spec olyW_ex q apart reached
theorem olyW_fn : olyW = fun q apart reached => outW (olyB q apart reached) := funext fun q => funext fun apart => funext fun reached => olyW_eq q apart reached
theorem scOly : FnScope ["q", "apart", "reached", "common", "beyond", "lacking", "gap"] ["q", "apart", "reached"] (defScope sOly) := ⟨rfl, rfl, rfl, by decide +kernel, rfl, by decide +kernel, by decide +kernel⟩
theorem ok_oly {f_fip f_lap f_tur : Addr} {d_fip d_lap d_tur : FuncData} (F : Fun K "only_tree" "only_tree" sOly f fd) (b : Bls mg) (c_fip : CalF P w K mg base 1 "first_place" f_fip d_fip ["some"] (spW1 K T fipW)) (c_lap : CalF P w K mg base 1 "last_place" f_lap d_lap ["some"] (spW1 K T lapW)) (c_tur : CalF P w K mg base 1 "turned" f_tur d_tur ["q", "some", "j"] (spW3 K T turW)) : FnOk P w K mg base CX0 2 f fd ["q", "apart", "reached"] (spW3 K T olyW) := by
  refine F.ok scOly (fun vs H Q E h => ?_) (fun cdv A outer s H vs Q E hr h => ?_)
  · exact spW3_len h
  · refine ⟨_, (pss_cons (ps_set (i := 3) scOly.nd rfl (.inl rfl) (pe_op op_andN (pv 1) (pv 2)))
      (pss_cons (ps_set (i := 4) scOly.nd rfl (.inl rfl) (pe_op op_xorN (pv 2) (pv 3)))
      (pss_cons (ps_set (i := 5) scOly.nd rfl (.inl rfl) (pe_op op_xorN (pv 1) (pv 3)))
      (pss_cons (ps_if (pt_cmpR op_ne (pv 4) pe_int (nomark _)) (pss_cons (ps_ret (pe_call c_lap.G (hr.mono (by decide)) (by rfl) c_lap.g c_lap.kp c_lap.b .nil pass0 (pa_cons (pv 4) pa_nil)))
      pss_nil) pss_nil)
      (pss_cons (ps_if (PW.pt (pw_or (pt_cmpR op_eq (pv 2) pe_int (nomark _)) (pw_or1 (pt_cmpR op_eq (pv 5) pe_int (nomark _))))) (pss_cons (ps_ret pe_non)
      pss_nil) pss_nil)
      (pss_cons (ps_set (i := 6) scOly.nd rfl (.inl rfl) (pe_call c_lap.G (hr.mono (by decide)) (by rfl) c_lap.g c_lap.kp c_lap.b .nil pass0 (pa_cons (pv 5) pa_nil)))
      (pss_cons (ps_ret (pe_op op_modNN (pe_op op_addN (pv 6) (pe_call c_fip.G (hr.mono (by decide)) (by rfl) c_fip.g c_fip.kp c_fip.b .nil pass0 (pa_cons (pe_call c_tur.G (hr.mono (by decide)) (by rfl) c_tur.g c_tur.kp c_tur.b .nil pass0 (pa_cons (pv 0) (pa_cons (pv 2) (pa_cons (pv 6) pa_nil)))) pa_nil))) (pv 0)))
      pss_nil))))))), w3_run (N := ["q", "apart", "reached", "common", "beyond", "lacking", "gap"]) psl_own psl_own psl_own (mB := olyB) (ρ := fun (q : Nat) (apart : Nat) (reached : Nat) => [.own (enc (q : Nat)), .own (enc (apart : Nat)), .own (enc (reached : Nat)), .any, .any, .any, .any]) (ρn := fun _ => []) (ρb := fun _ => []) (C := fun _ => True) (fun _ _ _ => rfl) trivial (fun (q : Nat) (apart : Nat) (reached : Nat) => 
  (rb_asg (ρ2 := fun (common_1 : Nat) => [.own (enc (q : Nat)), .own (enc (apart : Nat)), .own (enc (reached : Nat)), .own (enc (common_1 : Nat)), .any, .any, .any]) (re_op ow_andN (re_v (i := 1) (a := (apart : Nat)) rfl) (re_v (i := 2) (a := (reached : Nat)) rfl)) (fun (common_1 : Nat) => rg_name (i := 3) (show 3 < 7 by decide) rfl) (fun (common_1 : Nat) =>
  (rb_asg (ρ2 := fun (beyond_2 : Nat) => [.own (enc (q : Nat)), .own (enc (apart : Nat)), .own (enc (reached : Nat)), .own (enc (common_1 : Nat)), .own (enc (beyond_2 : Nat)), .any, .any]) (re_op ow_xorN (re_v (i := 2) (a := (reached : Nat)) rfl) (re_v (i := 3) (a := (common_1 : Nat)) rfl)) (fun (beyond_2 : Nat) => rg_name (i := 4) (show 4 < 7 by decide) rfl) (fun (beyond_2 : Nat) =>
  (rb_asg (ρ2 := fun (lacking_3 : Nat) => [.own (enc (q : Nat)), .own (enc (apart : Nat)), .own (enc (reached : Nat)), .own (enc (common_1 : Nat)), .own (enc (beyond_2 : Nat)), .own (enc (lacking_3 : Nat)), .any]) (re_op ow_xorN (re_v (i := 1) (a := (apart : Nat)) rfl) (re_v (i := 3) (a := (common_1 : Nat)) rfl)) (fun (lacking_3 : Nat) => rg_name (i := 5) (show 5 < 7 by decide) rfl) (fun (lacking_3 : Nat) =>
  (rb_if (ρ1 := fun (s_4 : Unit) => [.own (enc (q : Nat)), .own (enc (apart : Nat)), .own (enc (reached : Nat)), .own (enc (common_1 : Nat)), .own (enc (beyond_2 : Nat)), .own (enc (lacking_3 : Nat)), .any]) (rt_test (re_op ow_neN (re_v (i := 4) (a := (beyond_2 : Nat)) rfl) (re_nat 0)))
  (rb_ret (re_some (re_call1 (re_v (i := 4) (a := (beyond_2 : Nat)) rfl))))
  (rb_end (s := (() : Unit)) ⟨.eq _, ⟨.eq _, ⟨.eq _, ⟨.eq _, ⟨.eq _, ⟨.eq _, ⟨.any _, trivial⟩⟩⟩⟩⟩⟩⟩) (fun (s_4 : Unit) =>
  (rb_if (ρ1 := fun (s_5 : Unit) => [.own (enc (q : Nat)), .own (enc (apart : Nat)), .own (enc (reached : Nat)), .own (enc (common_1 : Nat)), .own (enc (beyond_2 : Nat)), .own (enc (lacking_3 : Nat)), .any]) (rt_or (rt_test (re_op ow_eqN (re_v (i := 2) (a := (reached : Nat)) rfl) (re_nat 0))) (rt_test (re_op ow_eqN (re_v (i := 5) (a := (lacking_3 : Nat)) rfl) (re_nat 0))))
  (rb_ret (re_none (α := Nat)))
  (rb_end (s := (() : Unit)) ⟨.eq _, ⟨.eq _, ⟨.eq _, ⟨.eq _, ⟨.eq _, ⟨.eq _, ⟨.any _, trivial⟩⟩⟩⟩⟩⟩⟩) (fun (s_5 : Unit) =>
  (rb_asg (ρ2 := fun (gap_6 : Nat) => [.own (enc (q : Nat)), .own (enc (apart : Nat)), .own (enc (reached : Nat)), .own (enc (common_1 : Nat)), .own (enc (beyond_2 : Nat)), .own (enc (lacking_3 : Nat)), .own (enc (gap_6 : Nat))]) (re_call1 (re_v (i := 5) (a := (lacking_3 : Nat)) rfl)) (fun (gap_6 : Nat) => rg_name (i := 6) (show 6 < 7 by decide) rfl) (fun (gap_6 : Nat) =>
  (rb_ret (re_some (re_op ow_modN (re_op ow_addN (re_v (i := 6) (a := (gap_6 : Nat)) rfl) (re_call1 (re_call3 (re_v (i := 0) (a := (q : Nat)) rfl) (re_v (i := 2) (a := (reached : Nat)) rfl) (re_v (i := 6) (a := (gap_6 : Nat)) rfl)))) (re_v (i := 0) (a := (q : Nat)) rfl))))))))))))))))) (by rw [olyW_fn] at h; exact h)⟩
/-! ### is_on_way -/
def iowB (q : Nat) (apart : Nat) (reached : Nat) (j : Nat) : M (Ctl Bool Unit Unit) :=
  (bindW (c3W (retW (q : Nat)) (retW (reached : Nat)) (retW (j : Nat)) fun A_1 A_2 A_3 => pureW (turW A_1 A_2 A_3)) fun (done_1 : Nat) =>
  (bindW (c3W (retW (q : Nat)) (retW (apart : Nat)) (retW (j : Nat)) fun A_1 A_2 A_3 => pureW (turW A_1 A_2 A_3)) fun (wanted_2 : Nat) =>
  (bindW (b2W (b2W (retW (1 : Nat)) (mapW lnF (retW (done_1 : Nat))) (fun a b : Nat => reqW (a = 1 ∧ b ≤ 134217727) (retW (2 ^ b)))) (retW (1 : Nat)) (fun a b : Nat => reqW (b ≤ a) (retW (a - b)))) fun (crossedbythen_3 : Nat) =>
  (bindW (andW (b2W (b2W (retW (done_1 : Nat)) (retW (1 : Nat)) (fun a b : Nat => retW (a &&& b))) (retW (1 : Nat)) (fun a b : Nat => retW (decide (a = b)))) (b2W (b2W (b2W (retW (done_1 : Nat)) (retW (wanted_2 : Nat)) (fun a b : Nat => retW (a ^^^ b))) (retW (crossedbythen_3 : Nat)) (fun a b : Nat => retW (a &&& b))) (retW (1 : Nat)) (fun a b : Nat => retW (decide (a ≤ b))))) fun r => retW (.ret r)))))
theorem iowW_ex : ∃ g : Nat → Nat → Nat → Nat → M Bool, ∀ q apart reached j, g q apart reached j = outW (iowB q apart reached j) := ⟨fun q apart reached j => outW (iowB q apart reached j), fun _ _ _ _ => rfl⟩
/-- sealed -/
def iowW : Nat → Nat → Nat → Nat → M Bool := Classical.choose iowW_ex
theorem iowW_eq (q : Nat) (apart : Nat) (reached : Nat) (j : Nat) : iowW q apart reached j = outW (iowB q apart reached j) := Classical.choose_spec iowW_ex q apart reached j
theorem iowW_fn : iowW = fun q apart reached j => outW (iowB q apart reached j) := funext fun q => funext fun apart => funext fun reached => funext fun j => iowW_eq q apart reached j
theorem scIow : FnScope ["q", "apart", "reached", "j", "done", "wanted", "crossed_by_then"] ["q", "apart", "reached", "j"] (defScope sIow) := ⟨rfl, rfl, rfl, by decide +kernel, rfl, by decide +kernel, by decide +kernel⟩
theorem ok_iow {f_tur : Addr} {d_tur : FuncData} (F : Fun K "is_on_way" "is_on_way" sIow f fd) (b : Bls mg) (c_tur : CalF P w K mg base 1 "turned" f_tur d_tur ["q", "some", "j"] (spW3 K T turW)) : FnOk P w K mg base CX0 2 f fd ["q", "apart", "reached", "j"] (spW4 K T iowW) := by
  refine F.ok scIow (fun vs H Q E h => ?_) (fun cdv A outer s H vs Q E hr h => ?_)
  · exact spW4_len h
  · refine ⟨_, (pss_cons (ps_set (i := 4) scIow.nd rfl (.inl rfl) (pe_call c_tur.G (hr.mono (by decide)) (by rfl) c_tur.g c_tur.kp c_tur.b .nil pass0 (pa_cons (pv 0) (pa_cons (pv 2) (pa_cons (pv 3) pa_nil)))))
      (pss_cons (ps_set (i := 5) scIow.nd rfl (.inl rfl) (pe_call c_tur.G (hr.mono (by decide)) (by rfl) c_tur.g c_tur.kp c_tur.b .nil pass0 (pa_cons (pv 0) (pa_cons (pv 1) (pa_cons (pv 3) pa_nil)))))
      (pss_cons (ps_set (i := 6) scIow.nd rfl (.inl rfl) (pe_op op_subN (pe_op op_bit pe_int (pe_bits (pv 4))) pe_int))
      (pss_cons (ps_ret (pe_and (pe_cmpR op_eq (pe_op op_andN (pv 4) pe_int) pe_int (nomark _)) (pe_one (pe_cmpR op_le (pe_op op_andN (pe_op op_xorN (pv 4) (pv 5)) (pv 6)) pe_int (nomark _)))))
      pss_nil)))), w4_run (N := ["q", "apart", "reached", "j", "done", "wanted", "crossed_by_then"]) psl_own psl_own psl_own psl_own (mB := iowB) (ρ := fun (q : Nat) (apart : Nat) (reached : Nat) (j : Nat) => [.own (enc (q : Nat)), .own (enc (apart : Nat)), .own (enc (reached : Nat)), .own (enc (j : Nat)), .any, .any, .any]) (ρn := fun _ => []) (ρb := fun _ => []) (C := fun _ => True) (fun _ _ _ _ => rfl) trivial (fun (q : Nat) (apart : Nat) (reached : Nat) (j : Nat) => 
  (rb_asg (ρ2 := fun (done_1 : Nat) => [.own (enc (q : Nat)), .own (enc (apart : Nat)), .own (enc (reached : Nat)), .own (enc (j : Nat)), .own (enc (done_1 : Nat)), .any, .any]) (re_call3 (re_v (i := 0) (a := (q : Nat)) rfl) (re_v (i := 2) (a := (reached : Nat)) rfl) (re_v (i := 3) (a := (j : Nat)) rfl)) (fun (done_1 : Nat) => rg_name (i := 4) (show 4 < 7 by decide) rfl) (fun (done_1 : Nat) =>
  (rb_asg (ρ2 := fun (wanted_2 : Nat) => [.own (enc (q : Nat)), .own (enc (apart : Nat)), .own (enc (reached : Nat)), .own (enc (j : Nat)), .own (enc (done_1 : Nat)), .own (enc (wanted_2 : Nat)), .any]) (re_call3 (re_v (i := 0) (a := (q : Nat)) rfl) (re_v (i := 1) (a := (apart : Nat)) rfl) (re_v (i := 3) (a := (j : Nat)) rfl)) (fun (wanted_2 : Nat) => rg_name (i := 5) (show 5 < 7 by decide) rfl) (fun (wanted_2 : Nat) =>
  (rb_asg (ρ2 := fun (crossedbythen_3 : Nat) => [.own (enc (q : Nat)), .own (enc (apart : Nat)), .own (enc (reached : Nat)), .own (enc (j : Nat)), .own (enc (done_1 : Nat)), .own (enc (wanted_2 : Nat)), .own (enc (crossedbythen_3 : Nat))]) (re_op ow_subN (re_op ow_bit (re_nat 1) (re_bits (re_v (i := 4) (a := (done_1 : Nat)) rfl))) (re_nat 1)) (fun (crossedbythen_3 : Nat) => rg_name (i := 6) (show 6 < 7 by decide) rfl) (fun (crossedbythen_3 : Nat) =>
  (rb_ret (re_and (re_op ow_eqN (re_op ow_andN (re_v (i := 4) (a := (done_1 : Nat)) rfl) (re_nat 1)) (re_nat 1)) (re_op ow_leN (re_op ow_andN (re_op ow_xorN (re_v (i := 4) (a := (done_1 : Nat)) rfl) (re_v (i := 5) (a := (wanted_2 : Nat)) rfl)) (re_v (i := 6) (a := (crossedbythen_3 : Nat)) rfl)) (re_nat 1))))))))))) (by rw [iowW_fn] at h; exact h)⟩
/-! ### tree_through -/
def tthB (q : Nat) (hand : Nat) (other : Nat) (source : Nat) : M (Ctl (Option Nat) Unit Unit) :=
  (bindW (b2W (retW (hand : Nat)) (retW (source : Nat)) (fun a b : Nat => retW (a ^^^ b))) fun (apart_1 : Nat) =>
  (bindW (b2W (retW (other : Nat)) (retW (source : Nat)) (fun a b : Nat => retW (a ^^^ b))) fun (reached_2 : Nat) =>
  (bindW (c3W (retW (q : Nat)) (retW (apart_1 : Nat)) (retW (reached_2 : Nat)) fun A_1 A_2 A_3 => pureW (olyW A_1 A_2 A_3)) fun (j_3 : (Option Nat)) =>
  (bindW (orW (bindW (retW (j_3 : (Option Nat))) fun x : (Option Nat) => retW x.isNone) (mapW (fun b => !b) (c4W (retW (q : Nat)) (retW (apart_1 : Nat)) (retW (reached_2 : Nat)) (getW (retW (j_3 : (Option Nat)))) fun A_1 A_2 A_3 A_4 => pureW (iowW A_1 A_2 A_3 A_4)))) fun B_ => seqW (if B_ = true then (bindW (retW (none : (Option Nat))) fun r => retW (.ret r)) else (retW (.nxt (() : Unit)))) fun (s_4 : Unit) =>
  (bindW (retW (j_3 : (Option Nat))) fun r => retW (.ret r))))))
theorem tthW_ex : ∃ g : Nat → Nat → Nat → Nat → M (Option Nat), ∀ q hand other source, g q hand other source = outW (tthB q hand other source) := ⟨fun q hand other source => outW (tthB q hand other source), fun _ _ _ _ => rfl⟩
/-- sealed -/
def tthW : Nat → Nat → Nat → Nat → M (Option Nat) := Classical.choose tthW_ex
theorem tthW_eq (q : Nat) (hand : Nat) (other : Nat) (source : Nat) : tthW q hand other source = outW (tthB q hand other source) := Classical.choose_spec tthW_ex q hand other source
theorem tthW_fn : tthW = fun q hand other source => outW (tthB q hand other source) := funext fun q => funext fun hand => funext fun other => funext fun source => tthW_eq q hand other source
theorem scTth : FnScope ["q", "hand", "other", "source", "apart", "reached", "j"] ["q", "hand", "other", "source"] (defScope sTth) := ⟨rfl, rfl, rfl, by decide +kernel, rfl, by decide +kernel, by decide +kernel⟩
theorem ok_tth {f_iow f_oly : Addr} {d_iow d_oly : FuncData} (F : Fun K "tree_through" "tree_through" sTth f fd) (b : Bls mg) (c_iow : CalF P w K mg base 2 "is_on_way" f_iow d_iow ["q", "apart", "reached", "j"] (spW4 K T iowW)) (c_oly : CalF P w K mg base 2 "only_tree" f_oly d_oly ["q", "apart", "reached"] (spW3 K T olyW)) : FnOk P w K mg base CX0 3 f fd ["q", "hand", "other", "source"] (spW4 K T tthW) := by
  refine F.ok scTth (fun vs H Q E h => ?_) (fun cdv A outer s H vs Q E hr h => ?_)
  · exact spW4_len h
  · refine ⟨_, (pss_cons (ps_set (i := 4) scTth.nd rfl (.inl rfl) (pe_op op_xorN (pv 1) (pv 3)))
      (pss_cons (ps_set (i := 5) scTth.nd rfl (.inl rfl) (pe_op op_xorN (pv 2) (pv 3)))
      (pss_cons (ps_set (i := 6) scTth.nd rfl (.inl rfl) (pe_call c_oly.G (hr.mono (by decide)) (by rfl) c_oly.g c_oly.kp c_oly.b .nil pass0 (pa_cons (pv 0) (pa_cons (pv 4) (pa_cons (pv 5) pa_nil)))))
      (pss_cons (ps_if (PW.pt (pw_or (pt_cmp (pc_isN (pv 6))) (pw_or1 (pt_not (pt_val (pe_call c_iow.G (hr.mono (by decide)) (by rfl) c_iow.g c_iow.kp c_iow.b .nil pass0 (pa_cons (pv 0) (pa_cons (pv 4) (pa_cons (pv 5) (pa_cons (pv 6) pa_nil)))))))))) (pss_cons (ps_ret pe_non)
      pss_nil) pss_nil)
      (pss_cons (ps_ret (pv 6))
      pss_nil))))), w4_run (N := ["q", "hand", "other", "source", "apart", "reached", "j"]) psl_own psl_own psl_own psl_own (mB := tthB) (ρ := fun (q : Nat) (hand : Nat) (other : Nat) (source : Nat) => [.own (enc (q : Nat)), .own (enc (hand : Nat)), .own (enc (other : Nat)), .own (enc (source : Nat)), .any, .any, .any]) (ρn := fun _ => []) (ρb := fun _ => []) (C := fun _ => True) (fun _ _ _ _ => rfl) trivial (fun (q : Nat) (hand : Nat) (other : Nat) (source : Nat) => 
  (rb_asg (ρ2 := fun (apart_1 : Nat) => [.own (enc (q : Nat)), .own (enc (hand : Nat)), .own (enc (other : Nat)), .own (enc (source : Nat)), .own (enc (apart_1 : Nat)), .any, .any]) (re_op ow_xorN (re_v (i := 1) (a := (hand : Nat)) rfl) (re_v (i := 3) (a := (source : Nat)) rfl)) (fun (apart_1 : Nat) => rg_name (i := 4) (show 4 < 7 by decide) rfl) (fun (apart_1 : Nat) =>
  (rb_asg (ρ2 := fun (reached_2 : Nat) => [.own (enc (q : Nat)), .own (enc (hand : Nat)), .own (enc (other : Nat)), .own (enc (source : Nat)), .own (enc (apart_1 : Nat)), .own (enc (reached_2 : Nat)), .any]) (re_op ow_xorN (re_v (i := 2) (a := (other : Nat)) rfl) (re_v (i := 3) (a := (source : Nat)) rfl)) (fun (reached_2 : Nat) => rg_name (i := 5) (show 5 < 7 by decide) rfl) (fun (reached_2 : Nat) =>
  (rb_asg (ρ2 := fun (j_3 : (Option Nat)) => [.own (enc (q : Nat)), .own (enc (hand : Nat)), .own (enc (other : Nat)), .own (enc (source : Nat)), .own (enc (apart_1 : Nat)), .own (enc (reached_2 : Nat)), .own (enc (j_3 : (Option Nat)))]) (re_call3 (re_v (i := 0) (a := (q : Nat)) rfl) (re_v (i := 4) (a := (apart_1 : Nat)) rfl) (re_v (i := 5) (a := (reached_2 : Nat)) rfl)) (fun (j_3 : (Option Nat)) => rg_name (i := 6) (show 6 < 7 by decide) rfl) (fun (j_3 : (Option Nat)) =>
  (rb_if (ρ1 := fun (s_4 : Unit) => [.own (enc (q : Nat)), .own (enc (hand : Nat)), .own (enc (other : Nat)), .own (enc (source : Nat)), .own (enc (apart_1 : Nat)), .own (enc (reached_2 : Nat)), .own (enc (j_3 : (Option Nat)))]) (rt_or (rt_val (re_un (ta := (tVar 6)) (t := tIsN (tVar 6)) (fun _ _ _ h => h) uw_isN (re_v (i := 6) (a := (j_3 : (Option Nat))) rfl))) (rt_not (rt_val (re_call4 (re_v (i := 0) (a := (q : Nat)) rfl) (re_v (i := 4) (a := (apart_1 : Nat)) rfl) (re_v (i := 5) (a := (reached_2 : Nat)) rfl) (re_getW (re_v (i := 6) (a := (j_3 : (Option Nat))) rfl))))))
  (rb_ret (re_none (α := Nat)))
  (rb_end (s := (() : Unit)) ⟨.eq _, ⟨.eq _, ⟨.eq _, ⟨.eq _, ⟨.eq _, ⟨.eq _, ⟨.eq _, trivial⟩⟩⟩⟩⟩⟩⟩) (fun (s_4 : Unit) =>
  (rb_ret (re_v (i := 6) (a := (j_3 : (Option Nat))) rfl))))))))))) (by rw [tthW_fn] at h; exact h)⟩
/-! ### spoilt -/
def splB (q : Nat) (hand : Nat) (lot : (List Nat)) (source : Nat) : M (Ctl (List Nat) Unit Unit) :=
  (bindW (bindW (retW (lot : (List Nat))) fun X_ => reqW (X_.length ≤ sizeLine) (lcW (fun (other_1 : Nat) => (retW true)) (fun (other_1 : Nat) => (c4W (retW (q : Nat)) (retW (hand : Nat)) (retW (other_1 : Nat)) (retW (source : Nat)) fun A_1 A_2 A_3 A_4 => pureW (tthW A_1 A_2 A_3 A_4))) X_ [])) fun (trees_2 : (Lst (Option Nat))) =>
  (bindW (bindW (bindW (bindW (retW (q : Nat)) fun k => reqW (k < 4611686018427387904) (retW (List.range k))) fun X_ => reqW (X_.length ≤ sizeLine) (lcW (fun (j_3 : Nat) => (b2W (mapW some (retW (j_3 : Nat))) (retW (trees_2 : (Lst (Option Nat)))) (fun (x : Option Nat) (xs : (Lst (Option Nat))) => retW (decide (x ∈ xs.l))))) (fun (j_3 : Nat) => (retW (j_3 : Nat))) X_ [])) fun xs : (Lst Nat) => retW xs.l) fun r => retW (.ret r)))
theorem splW_ex : ∃ g : Nat → Nat → (List Nat) → Nat → M (List Nat), ∀ q hand lot source, g q hand lot source = outW (splB q hand lot source) := ⟨fun q hand lot source => outW (splB q hand lot source), fun _ _ _ _ => rfl⟩
/-- sealed -/
def splW : Nat → Nat → (List Nat) → Nat → M (List Nat) := Classical.choose splW_ex
theorem splW_eq (q : Nat) (hand : Nat) (lot : (List Nat)) (source : Nat) : splW q hand lot source = outW (splB q hand lot source) := Classical.choose_spec splW_ex q hand lot source
theorem splW_fn : splW = fun q hand lot source => outW (splB q hand lot source) := funext fun q => funext fun hand => funext fun lot => funext fun source => splW_eq q hand lot source
theorem scSpl : FnScope ["q", "hand", "lot", "source", "trees", "other", "j"] ["q", "hand", "lot", "source"] (defScope sSpl) := ⟨rfl, rfl, rfl, by decide +kernel, rfl, by decide +kernel, by decide +kernel⟩
theorem ok_spl {f_tth : Addr} {d_tth : FuncData} (F : FunS K "spoilt" sSpl f fd) (b : Bls mg) (c_tth : CalF P w K mg base 3 "tree_through" f_tth d_tth ["q", "hand", "other", "source"] (spW4 K T tthW)) : FnOk P w K mg base CX0 4 f fd ["q", "hand", "lot", "source"] (spW4 K T splW) := by
  refine F.go scSpl (fun vs H Q E h => ?_) (fun cdv A outer s H vs Q E hr h => ?_)
  · exact spW4_len h
  · refine ⟨_, (pss_cons (ps_set (i := 4) scSpl.nd rfl (.inr rfl) (pe_lc (own := [("other", 5)]) (g := (gName 5)) (tt := tYes) (te := (tCall (spW4 K T tthW) [] E0 (tCons (tVar 0) (tCons (tVar 1) (tCons (tVar 5) (tCons (tVar 3) tNil)))))) (by rfl) scSpl.nd (pi_tup (pv 2)) (blkOk_by (own := [("other", 5)]) (N := ["q", "hand", "lot", "source", "trees", "other", "j"]) (sc := defScope sSpl) (by decide +kernel)) (fun _ _ _ _ _ => (pg_name (i := 5) scSpl.nd rfl (Or.inl rfl))) (fun _ _ _ _ _ => pts_nil) (fun _ _ _ _ _ => (pe_call c_tth.G (hr.mono (by decide)) (by rfl) c_tth.g c_tth.kp c_tth.b .nil pass0 (pa_cons (pv 0) (pa_cons (pv 1) (pa_cons (pv 5) (pa_cons (pv 3) pa_nil))))))))
      (pss_cons (ps_ret (pe_callTy call_tuple_of (by rfl) b.tuple (by decide +kernel) (pa_cons (pe_lc (own := [("j", 6)]) (g := (gName 6)) (tt := (tTest (tOp (rIn K false) (tVar 6) (tVar 4)))) (te := (tVar 6)) (by rfl) scSpl.nd (pi_range1 (by rfl) b.range (pa_cons (pv 0) pa_nil)) (blkOk_by (own := [("j", 6)]) (N := ["q", "hand", "lot", "source", "trees", "other", "j"]) (sc := defScope sSpl) (by decide +kernel)) (fun _ _ _ _ _ => (pg_name (i := 6) scSpl.nd rfl (Or.inl rfl))) (fun _ _ _ _ _ => (pts_one (pt_cmpR op_in_seq (pv 6) (pv 4) (by rfl)))) (fun _ _ _ _ _ => (pv 6))) pa_nil)))
      pss_nil)), w4_run (N := ["q", "hand", "lot", "source", "trees", "other", "j"]) psl_own psl_own psl_own psl_own (mB := splB) (ρ := fun (q : Nat) (hand : Nat) (lot : (List Nat)) (source : Nat) => [.own (enc (q : Nat)), .own (enc (hand : Nat)), .own (enc (lot : (List Nat))), .own (enc (source : Nat)), .any, .any, .any]) (ρn := fun _ => []) (ρb := fun _ => []) (C := fun _ => True) (fun _ _ _ _ => rfl) trivial (fun (q : Nat) (hand : Nat) (lot : (List Nat)) (source : Nat) => 
  (rb_asg (ρ2 := fun (trees_2 : (Lst (Option Nat))) => [.own (enc (q : Nat)), .own (enc (hand : Nat)), .own (enc (lot : (List Nat))), .own (enc (source : Nat)), .own (enc (trees_2 : (Lst (Option Nat)))), .any, .any]) (re_lc (vs := [5]) (ρw := [.own (enc (q : Nat)), .own (enc (hand : Nat)), .own (enc (lot : (List Nat))), .own (enc (source : Nat)), .any, .any, .any]) (ρx := fun (other_1 : Nat) => [.own (enc (q : Nat)), .own (enc (hand : Nat)), .own (enc (lot : (List Nat))), .own (enc (source : Nat)), .any, .own (enc (other_1 : Nat)), .any]) rfl (ri_tup (re_v (i := 2) (a := (lot : (List Nat))) rfl)) (by decide) (fun (other_1 : Nat) => (rg_name (i := 5) (ρ' := [.own (enc (q : Nat)), .own (enc (hand : Nat)), .own (enc (lot : (List Nat))), .own (enc (source : Nat)), .any, .own (enc (other_1 : Nat)), .any]) (show 5 < 7 by decide) rfl)) (fun (other_1 : Nat) => rt_yes) (fun (other_1 : Nat) => (re_call4 (re_v (i := 0) (a := (q : Nat)) rfl) (re_v (i := 1) (a := (hand : Nat)) rfl) (re_v (i := 5) (a := (other_1 : Nat)) rfl) (re_v (i := 3) (a := (source : Nat)) rfl)))) (fun (trees_2 : (Lst (Option Nat))) => rg_name (i := 4) (show 4 < 7 by decide) rfl) (fun (trees_2 : (Lst (Option Nat))) =>
  (rb_freeze (i := 4) (ρ2 := [.own (enc (q : Nat)), .own (enc (hand : Nat)), .own (enc (lot : (List Nat))), .own (enc (source : Nat)), .bor (enc (trees_2 : (Lst (Option Nat)))), .any, .any]) rfl rfl (rb_ret (re_cb uw_tupL (re_lc (vs := [6]) (ρw := [.own (enc (q : Nat)), .own (enc (hand : Nat)), .own (enc (lot : (List Nat))), .own (enc (source : Nat)), .bor (enc (trees_2 : (Lst (Option Nat)))), .any, .any]) (ρx := fun (j_3 : Nat) => [.own (enc (q : Nat)), .own (enc (hand : Nat)), .own (enc (lot : (List Nat))), .own (enc (source : Nat)), .bor (enc (trees_2 : (Lst (Option Nat)))), .any, .own (enc (j_3 : Nat))]) rfl (ri_range (re_v (i := 0) (a := (q : Nat)) rfl)) (by decide) (fun (j_3 : Nat) => (rg_name (i := 6) (ρ' := [.own (enc (q : Nat)), .own (enc (hand : Nat)), .own (enc (lot : (List Nat))), .own (enc (source : Nat)), .bor (enc (trees_2 : (Lst (Option Nat)))), .any, .own (enc (j_3 : Nat))]) (show 6 < 7 by decide) rfl)) (fun (j_3 : Nat) => (rt_test (re_op ow_inLO (re_some (re_v (i := 6) (a := (j_3 : Nat)) rfl)) (re_bor (i := 4) (a := (trees_2 : (Lst (Option Nat)))) rfl)))) (fun (j_3 : Nat) => (re_v (i := 6) (a := (j_3 : Nat)) rfl))))))))) (by rw [splW_fn] at h; exact h)⟩
/-! ### raised -/
def raiB (n : Nat) (base : Nat) (exponent : Nat) : M (Ctl Nat Unit Unit) :=
  (bindW (retW (1 : Nat)) fun (power_1 : Nat) =>
  (bindW (b2W (retW (base : Nat)) (retW (n : Nat)) (fun a b : Nat => reqW (0 < b) (retW (a % b)))) fun (square_2 : Nat) =>
  (bindW (retW (exponent : Nat)) fun (left_3 : Nat) =>
  (seqW (whileW (fun (s_4 : (Nat × Nat × Nat)) => (b2W (retW (s_4.2.2 : Nat)) (retW (0 : Nat)) (fun a b : Nat => retW (decide (b < a))))) (fun (s_4 : (Nat × Nat × Nat)) =>
  (bindW (b2W (b2W (retW (s_4.2.2 : Nat)) (retW (2 : Nat)) (fun a b : Nat => reqW (0 < b) (retW (a % b)))) (retW (1 : Nat)) (fun a b : Nat => retW (decide (a = b)))) fun B_ => seqW (if B_ = true then (bindW (b2W (b2W (retW (s_4.1 : Nat)) (retW (s_4.2.1 : Nat)) (fun a b : Nat => reqW (a < 2 ^ 63) (retW (a * b)))) (retW (n : Nat)) (fun a b : Nat => reqW (0 < b) (retW (a % b)))) fun (power_6 : Nat) =>
  (retW (.nxt (power_6 : Nat)))) else (retW (.nxt (s_4.1 : Nat)))) fun (s_5 : Nat) =>
  (bindW (b2W (b2W (retW (s_4.2.1 : Nat)) (retW (s_4.2.1 : Nat)) (fun a b : Nat => reqW (a < 2 ^ 63) (retW (a * b)))) (retW (n : Nat)) (fun a b : Nat => reqW (0 < b) (retW (a % b)))) fun (square_7 : Nat) =>
  (bindW (bindW (retW (2 : Nat)) ((fun a b : Nat => reqW (0 < b ∧ b < 1073741824) (retW (a / b))) (s_4.2.2 : Nat))) fun (left_8 : Nat) =>
  (retW (.nxt ((s_5, square_7, left_8) : (Nat × Nat × Nat)))))))) ((power_1, square_2, left_3) : (Nat × Nat × Nat))) fun (s_4 : (Nat × Nat × Nat)) =>
  (bindW (retW (s_4.1 : Nat)) fun r => retW (.ret r))))))
theorem raiW_ex : ∃ g : Nat → Nat → Nat → M Nat, ∀ n base exponent, g n base exponent = outW (raiB n base exponent) := ⟨fun n base exponent => outW (raiB n base exponent), fun _ _ _ => rfl⟩
/-- sealed -/
def raiW : Nat → Nat → Nat → M Nat := Classical.choose raiW_ex
theorem raiW_eq (n : Nat) (base : Nat) (exponent : Nat) : raiW n base exponent = outW (raiB n base exponent) := Classical.choose_spec raiW_ex n base exponent
theorem raiW_fn : raiW = fun n base exponent => outW (raiB n base exponent) := funext fun n => funext fun base => funext fun exponent => raiW_eq n base exponent
theorem scRai : FnScope ["n", "base", "exponent", "power", "square", "left"] ["n", "base", "exponent"] (defScope sRai) := ⟨rfl, rfl, rfl, by decide +kernel, rfl, by decide +kernel, by decide +kernel⟩
theorem ok_rai (F : Fun K "raised" "raised" sRai f fd) (b : Bls mg) : FnOk P w K mg base CX0 1 f fd ["n", "base", "exponent"] (spW3 K T raiW) := by
  refine F.ok scRai (fun vs H Q E h => ?_) (fun cdv A outer s H vs Q E hr h => ?_)
  · exact spW3_len h
  · refine ⟨_, (pss_cons (ps_set (i := 3) scRai.nd rfl (.inl rfl) pe_int)
      (pss_cons (ps_set (i := 4) scRai.nd rfl (.inl rfl) (pe_op op_modNN (pv 1) (pv 0)))
      (pss_cons (ps_set (i := 5) scRai.nd rfl (.inl rfl) (pv 2))
      (pss_cons (ps_while PassesOwn.never (pt_cmpR op_gt (pv 5) pe_int (nomark _))
      (pss_cons (ps_if (pt_cmpR op_eq (pe_op op_modNN (pv 5) pe_int) pe_int (nomark _)) (pss_cons (ps_set (i := 3) scRai.nd rfl (.inl rfl) (pe_op op_modNN (pe_op op_mulNN (pv 3) (pv 4)) (pv 0)))
      pss_nil) pss_nil)
      (pss_cons (ps_set (i := 4) scRai.nd rfl (.inl rfl) (pe_op op_modNN (pe_op op_mulNN (pv 4) (pv 4)) (pv 0)))
      (pss_cons (ps_aug (i := 5) scRai.nd rfl (.inl rfl) pe_int iop_fdivNN)
      pss_nil))))
      (pss_cons (ps_ret (pv 3))
      pss_nil))))), w3_run (N := ["n", "base", "exponent", "power", "square", "left"]) psl_own psl_own psl_own (mB := raiB) (ρ := fun (n : Nat) (base : Nat) (exponent : Nat) => [.own (enc (n : Nat)), .own (enc (base : Nat)), .own (enc (exponent : Nat)), .any, .any, .any]) (ρn := fun _ => []) (ρb := fun _ => []) (C := fun _ => True) (fun _ _ _ => rfl) trivial (fun (n : Nat) (base : Nat) (exponent : Nat) => 
  (rb_asg (ρ2 := fun (power_1 : Nat) => [.own (enc (n : Nat)), .own (enc (base : Nat)), .own (enc (exponent : Nat)), .own (enc (power_1 : Nat)), .any, .any]) (re_nat 1) (fun (power_1 : Nat) => rg_name (i := 3) (show 3 < 6 by decide) rfl) (fun (power_1 : Nat) =>
  (rb_asg (ρ2 := fun (square_2 : Nat) => [.own (enc (n : Nat)), .own (enc (base : Nat)), .own (enc (exponent : Nat)), .own (enc (power_1 : Nat)), .own (enc (square_2 : Nat)), .any]) (re_op ow_modN (re_v (i := 1) (a := (base : Nat)) rfl) (re_v (i := 0) (a := (n : Nat)) rfl)) (fun (square_2 : Nat) => rg_name (i := 4) (show 4 < 6 by decide) rfl) (fun (square_2 : Nat) =>
  (rb_asg (ρ2 := fun (left_3 : Nat) => [.own (enc (n : Nat)), .own (enc (base : Nat)), .own (enc (exponent : Nat)), .own (enc (power_1 : Nat)), .own (enc (square_2 : Nat)), .own (enc (left_3 : Nat))]) (re_v (i := 2) (a := (exponent : Nat)) rfl) (fun (left_3 : Nat) => rg_name (i := 5) (show 5 < 6 by decide) rfl) (fun (left_3 : Nat) =>
  (rb_while (s0 := ((power_1, square_2, left_3) : (Nat × Nat × Nat))) (ρl := fun (s_4 : (Nat × Nat × Nat)) => [.own (enc (n : Nat)), .own (enc (base : Nat)), .own (enc (exponent : Nat)), .own (enc (s_4.1 : Nat)), .own (enc (s_4.2.1 : Nat)), .own (enc (s_4.2.2 : Nat))]) ⟨.eq _, ⟨.eq _, ⟨.eq _, ⟨.eq _, ⟨.eq _, ⟨.eq _, trivial⟩⟩⟩⟩⟩⟩ (fun (s_4 : (Nat × Nat × Nat)) => (rt_test (re_op ow_gtN (re_v (i := 5) (a := (s_4.2.2 : Nat)) rfl) (re_nat 0)))) (fun (s_4 : (Nat × Nat × Nat)) =>
  (rb_if (ρ1 := fun (s_5 : Nat) => [.own (enc (n : Nat)), .own (enc (base : Nat)), .own (enc (exponent : Nat)), .own (enc (s_5 : Nat)), .own (enc (s_4.2.1 : Nat)), .own (enc (s_4.2.2 : Nat))]) (rt_test (re_op ow_eqN (re_op ow_modN (re_v (i := 5) (a := (s_4.2.2 : Nat)) rfl) (re_nat 2)) (re_nat 1)))
  (rb_asg (ρ2 := fun (power_6 : Nat) => [.own (enc (n : Nat)), .own (enc (base : Nat)), .own (enc (exponent : Nat)), .own (enc (power_6 : Nat)), .own (enc (s_4.2.1 : Nat)), .own (enc (s_4.2.2 : Nat))]) (re_op ow_modN (re_op ow_mulN (re_v (i := 3) (a := (s_4.1 : Nat)) rfl) (re_v (i := 4) (a := (s_4.2.1 : Nat)) rfl)) (re_v (i := 0) (a := (n : Nat)) rfl)) (fun (power_6 : Nat) => rg_name (i := 3) (show 3 < 6 by decide) rfl) (fun (power_6 : Nat) =>
  (rb_end (s := (power_6 : Nat)) ⟨.eq _, ⟨.eq _, ⟨.eq _, ⟨.eq _, ⟨.eq _, ⟨.eq _, trivial⟩⟩⟩⟩⟩⟩)))
  (rb_end (s := (s_4.1 : Nat)) ⟨.eq _, ⟨.eq _, ⟨.eq _, ⟨.eq _, ⟨.eq _, ⟨.eq _, trivial⟩⟩⟩⟩⟩⟩) (fun (s_5 : Nat) =>
  (rb_asg (ρ2 := fun (square_7 : Nat) => [.own (enc (n : Nat)), .own (enc (base : Nat)), .own (enc (exponent : Nat)), .own (enc (s_5 : Nat)), .own (enc (square_7 : Nat)), .own (enc (s_4.2.2 : Nat))]) (re_op ow_modN (re_op ow_mulN (re_v (i := 4) (a := (s_4.2.1 : Nat)) rfl) (re_v (i := 4) (a := (s_4.2.1 : Nat)) rfl)) (re_v (i := 0) (a := (n : Nat)) rfl)) (fun (square_7 : Nat) => rg_name (i := 4) (show 4 < 6 by decide) rfl) (fun (square_7 : Nat) =>
  (rb_aug (i := 5) (a := (s_4.2.2 : Nat)) (ρ2 := fun (left_8 : Nat) => [.own (enc (n : Nat)), .own (enc (base : Nat)), .own (enc (exponent : Nat)), .own (enc (s_5 : Nat)), .own (enc (square_7 : Nat)), .own (enc (left_8 : Nat))]) ow_divN rfl (re_nat 2) (fun _ => rfl) (fun (left_8 : Nat) =>
  (rb_end (s := ((s_5, square_7, left_8) : (Nat × Nat × Nat))) ⟨.eq _, ⟨.eq _, ⟨.eq _, ⟨.eq _, ⟨.eq _, ⟨.eq _, trivial⟩⟩⟩⟩⟩⟩)))))))) (fun (s_4 : (Nat × Nat × Nat)) =>
  (rb_ret (re_v (i := 3) (a := (s_4.1 : Nat)) rfl))))))))))) (by rw [raiW_fn] at h; exact h)⟩
end
end Bf
namespace Bf
open PySem PySem.Spec PyProof.Rows L2 LamX NdefX
noncomputable section
variable {P : Program} {w : World} {K : PySem.W.Frag} {mg : Str → Option Value} {base : Heap} {f : Addr} {fd : FuncData} {k : Nat} {T : List (Addr × Str)}
/-! ### inverse -/
def invB (p : Nat) (n : Nat) : M (Ctl Nat Unit Unit) :=
  (bindW (b2W (b2W (retW (n : Nat)) (retW (p : Nat)) (fun a b : Nat => reqW (0 < b) (retW (a % b)))) (retW (0 : Nat)) (fun a b : Nat => retW (decide (a = b)))) fun B_ => seqW (if B_ = true then (fun _ _ => False) else (retW (.nxt (() : Unit)))) fun (s_1 : Unit) =>
  (bindW (c3W (retW (p : Nat)) (retW (n : Nat)) (b2W (retW (p : Nat)) (retW (2 : Nat)) (fun a b : Nat => reqW (b ≤ a) (retW (a - b)))) fun A_1 A_2 A_3 => pureW (raiW A_1 A_2 A_3)) fun r => retW (.ret r)))
theorem invW_ex : ∃ g : Nat → Nat → M Nat, ∀ p n, g p n = outW (invB p n) := ⟨fun p n => outW (invB p n), fun _ _ => rfl⟩
/-- sealed -/
def invW : Nat → Nat → M Nat := Classical.choose invW_ex
theorem invW_eq (p : Nat) (n : Nat) : invW p n = outW (invB p n) := Classical.choose_spec invW_ex p n
theorem invW_fn : invW = fun p n => outW (invB p n) := funext fun p => funext fun n => invW_eq p n
theorem scInv : FnScope ["p", "n"] ["p", "n"] (defScope sInv) := ⟨rfl, rfl, rfl, by decide +kernel, rfl, by decide +kernel, by decide +kernel⟩
theorem ok_inv {f_rai : Addr} {d_rai : FuncData} (F : Fun K "inverse" "inverse" sInv f fd) (b : Bls mg) (c_rai : CalF P w K mg base 1 "raised" f_rai d_rai ["n", "base", "exponent"] (spW3 K T raiW)) : FnOk P w K mg base CX0 2 f fd ["p", "n"] (spW2 K T invW) := by
  refine F.ok scInv (fun vs H Q E h => ?_) (fun cdv A outer s H vs Q E hr h => ?_)
  · exact spW2_len h
  · refine ⟨_, (pss_cons (ps_if (pt_cmpR op_eq (pe_op op_modNN (pv 1) (pv 0)) pe_int (nomark _)) (pss_cons ps_dead
      pss_nil) pss_nil)
      (pss_cons (ps_ret (pe_call c_rai.G (hr.mono (by decide)) (by rfl) c_rai.g c_rai.kp c_rai.b .nil pass0 (pa_cons (pv 0) (pa_cons (pv 1) (pa_cons (pe_op op_subN (pv 0) pe_int) pa_nil)))))
      pss_nil)), w2_run (N := ["p", "n"]) psl_own psl_own (mB := invB) (ρ := fun (p : Nat) (n : Nat) => [.own (enc (p : Nat)), .own (enc (n : Nat))]) (ρn := fun _ => []) (ρb := fun _ => []) (C := fun _ => True) (fun _ _ => rfl) trivial (fun (p : Nat) (n : Nat) => 
  (rb_if (ρ1 := fun (s_1 : Unit) => [.own (enc (p : Nat)), .own (enc (n : Nat))]) (rt_test (re_op ow_eqN (re_op ow_modN (re_v (i := 1) (a := (n : Nat)) rfl) (re_v (i := 0) (a := (p : Nat)) rfl)) (re_nat 0)))
  rb_dead
  (rb_end (s := (() : Unit)) ⟨.eq _, ⟨.eq _, trivial⟩⟩) (fun (s_1 : Unit) =>
  (rb_ret (re_call3 (re_v (i := 0) (a := (p : Nat)) rfl) (re_v (i := 1) (a := (n : Nat)) rfl) (re_op ow_subN (re_v (i := 0) (a := (p : Nat)) rfl) (re_nat 2))))))) (by rw [invW_fn] at h; exact h)⟩
/-! ### value -/
def valB (p : Nat) (row : (List Nat)) (x : Nat) : M (Ctl Nat Unit Unit) :=
  (bindW (retW (0 : Nat)) fun (total_1 : Nat) =>
  (bindW (mapW List.reverse (retW (row : (List Nat)))) fun X_ => seqW (forW (fun (number_3 : Nat) (s_2 : Nat) =>
  (bindW (b2W (b2W (b2W (retW (s_2 : Nat)) (retW (x : Nat)) (fun a b : Nat => reqW (a < 2 ^ 63) (retW (a * b)))) (retW (number_3 : Nat)) (fun a b : Nat => retW (a + b))) (retW (p : Nat)) (fun a b : Nat => reqW (0 < b) (retW (a % b)))) fun (total_4 : Nat) =>
  (retW (.nxt (total_4 : Nat))))) X_ (total_1 : Nat)) fun (s_2 : Nat) =>
  (bindW (retW (s_2 : Nat)) fun r => retW (.ret r))))
theorem valW_ex : ∃ g : Nat → (List Nat) → Nat → M Nat, ∀ p row x, g p row x = outW (valB p row x) := ⟨fun p row x => outW (valB p row x), fun _ _ _ => rfl⟩
/-- sealed -/
def valW : Nat → (List Nat) → Nat → M Nat := Classical.choose valW_ex
theorem valW_eq (p : Nat) (row : (List Nat)) (x : Nat) : valW p row x = outW (valB p row x) := Classical.choose_spec valW_ex p row x
theorem valW_fn : valW = fun p row x => outW (valB p row x) := funext fun p => funext fun row => funext fun x => valW_eq p row x
theorem scVal : FnScope ["p", "row", "x", "total", "number"] ["p", "row", "x"] (defScope sVal) := ⟨rfl, rfl, rfl, by decide +kernel, rfl, by decide +kernel, by decide +kernel⟩
theorem ok_val (F : Fun K "value" "value" sVal f fd) (b : Bls mg) : FnOk P w K mg base CX0 1 f fd ["p", "row", "x"] (spW3 K T valW) := by
  refine F.ok scVal (fun vs H Q E h => ?_) (fun cdv A outer s H vs Q E hr h => ?_)
  · exact spW3_len h
  · refine ⟨_, (pss_cons (ps_set (i := 3) scVal.nd rfl (.inl rfl) pe_int)
      (pss_cons (ps_for PassesOwn.never rfl (RT.pi_revA (by rfl) b.reversed (pv 1)) (pg_name (i := 4) scVal.nd rfl (Or.inl rfl))
      (pss_cons (ps_set (i := 3) scVal.nd rfl (.inl rfl) (pe_op op_modNN (pe_op op_addN (pe_op op_mulNN (pv 3) (pv 2)) (pv 4)) (pv 0)))
      pss_nil))
      (pss_cons (ps_ret (pv 3))
      pss_nil))), w3_run (N := ["p", "row", "x", "total", "number"]) psl_own psl_own psl_own (mB := valB) (ρ := fun (p : Nat) (row : (List Nat)) (x : Nat) => [.own (enc (p : Nat)), .own (enc (row : (List Nat))), .own (enc (x : Nat)), .any, .any]) (ρn := fun _ => []) (ρb := fun _ => []) (C := fun _ => True) (fun _ _ _ => rfl) trivial (fun (p : Nat) (row : (List Nat)) (x : Nat) => 
  (rb_asg (ρ2 := fun (total_1 : Nat) => [.own (enc (p : Nat)), .own (enc (row : (List Nat))), .own (enc (x : Nat)), .own (enc (total_1 : Nat)), .any]) (re_nat 0) (fun (total_1 : Nat) => rg_name (i := 3) (show 3 < 5 by decide) rfl) (fun (total_1 : Nat) =>
  (rb_for (s0 := (total_1 : Nat)) (ρl := fun (s_2 : Nat) => [.own (enc (p : Nat)), .own (enc (row : (List Nat))), .own (enc (x : Nat)), .own (enc (s_2 : Nat)), .any]) (ρx := fun (number_3 : Nat) (s_2 : Nat) => [.own (enc (p : Nat)), .own (enc (row : (List Nat))), .own (enc (x : Nat)), .own (enc (s_2 : Nat)), .own (enc (number_3 : Nat))]) (ri_revT (re_v (i := 1) (a := (row : (List Nat))) rfl)) ⟨.eq _, ⟨.eq _, ⟨.eq _, ⟨.eq _, ⟨.any _, trivial⟩⟩⟩⟩⟩ (fun (number_3 : Nat) (s_2 : Nat) => (rg_name (i := 4) (ρ' := [.own (enc (p : Nat)), .own (enc (row : (List Nat))), .own (enc (x : Nat)), .own (enc (s_2 : Nat)), .own (enc (number_3 : Nat))]) (show 4 < 5 by decide) rfl)) (fun (number_3 : Nat) (s_2 : Nat) =>
  (rb_asg (ρ2 := fun (total_4 : Nat) => [.own (enc (p : Nat)), .own (enc (row : (List Nat))), .own (enc (x : Nat)), .own (enc (total_4 : Nat)), .own (enc (number_3 : Nat))]) (re_op ow_modN (re_op ow_addN (re_op ow_mulN (re_v (i := 3) (a := (s_2 : Nat)) rfl) (re_v (i := 2) (a := (x : Nat)) rfl)) (re_v (i := 4) (a := (number_3 : Nat)) rfl)) (re_v (i := 0) (a := (p : Nat)) rfl)) (fun (total_4 : Nat) => rg_name (i := 3) (show 3 < 5 by decide) rfl) (fun (total_4 : Nat) =>
  (rb_end (s := (total_4 : Nat)) ⟨.eq _, ⟨.eq _, ⟨.eq _, ⟨.eq _, ⟨.any _, trivial⟩⟩⟩⟩⟩)))) (fun (s_2 : Nat) =>
  (rb_ret (re_v (i := 3) (a := (s_2 : Nat)) rfl))))))) (by rw [valW_fn] at h; exact h)⟩
/-! ### values -/
def vasB (p : Nat) (row : (List Nat)) (many : Nat) : M (Ctl (List Nat) Unit Unit) :=
  (bindW (bindW (bindW (b2W (retW (1 : Nat)) (b2W (retW (many : Nat)) (retW (1 : Nat)) (fun a b : Nat => retW (a + b))) fun a b => reqW (a < 4611686018427387904 ∧ b < 4611686018427387904) (retW (rng2 a b))) fun X_ => reqW (X_.length ≤ sizeLine) (lcW (fun (x_1 : Nat) => (retW true)) (fun (x_1 : Nat) => (c3W (retW (p : Nat)) (retW (row : (List Nat))) (retW (x_1 : Nat)) fun A_1 A_2 A_3 => pureW (valW A_1 A_2 A_3))) X_ [])) fun xs : (Lst Nat) => retW xs.l) fun r => retW (.ret r))
theorem vasW_ex : ∃ g : Nat → (List Nat) → Nat → M (List Nat), ∀ p row many, g p row many = outW (vasB p row many) := ⟨fun p row many => outW (vasB p row many), fun _ _ _ => rfl⟩
/-- sealed -/
def vasW : Nat → (List Nat) → Nat → M (List Nat) := Classical.choose vasW_ex
theorem vasW_eq (p : Nat) (row : (List Nat)) (many : Nat) : vasW p row many = outW (vasB p row many) := Classical.choose_spec vasW_ex p row many
theorem vasW_fn : vasW = fun p row many => outW (vasB p row many) := funext fun p => funext fun row => funext fun many => vasW_eq p row many
theorem scVas : FnScope ["p", "row", "many", "x"] ["p", "row", "many"] (defScope sVas) := ⟨rfl, rfl, rfl, by decide +kernel, rfl, by decide +kernel, by decide +kernel⟩
theorem ok_vas {f_val : Addr} {d_val : FuncData} (F : Fun K "values" "values" sVas f fd) (b : Bls mg) (c_val : CalF P w K mg base 1 "value" f_val d_val ["p", "row", "x"] (spW3 K T valW)) : FnOk P w K mg base CX0 2 f fd ["p", "row", "many"] (spW3 K T vasW) := by
  refine F.ok scVas (fun vs H Q E h => ?_) (fun cdv A outer s H vs Q E hr h => ?_)
  · exact spW3_len h
  · refine ⟨_, (pss_cons (ps_ret (pe_callTy call_tuple_of (by rfl) b.tuple (by decide +kernel) (pa_cons (pe_lc (own := [("x", 3)]) (g := (gName 3)) (tt := tYes) (te := (tCall (spW3 K T valW) [] E0 (tCons (tVar 0) (tCons (tVar 1) (tCons (tVar 3) tNil))))) (by rfl) scVas.nd (pi_range2 (by rfl) b.range (pa_cons pe_int (pa_cons (pe_op op_addN (pv 2) pe_int) pa_nil))) (blkOk_by (own := [("x", 3)]) (N := ["p", "row", "many", "x"]) (sc := defScope sVas) (by decide +kernel)) (fun _ _ _ _ _ => (pg_name (i := 3) scVas.nd rfl (Or.inl rfl))) (fun _ _ _ _ _ => pts_nil) (fun _ _ _ _ _ => (pe_call c_val.G (hr.mono (by decide)) (by rfl) c_val.g c_val.kp c_val.b .nil pass0 (pa_cons (pv 0) (pa_cons (pv 1) (pa_cons (pv 3) pa_nil)))))) pa_nil)))
      pss_nil), w3_run (N := ["p", "row", "many", "x"]) psl_own psl_own psl_own (mB := vasB) (ρ := fun (p : Nat) (row : (List Nat)) (many : Nat) => [.own (enc (p : Nat)), .own (enc (row : (List Nat))), .own (enc (many : Nat)), .any]) (ρn := fun _ => []) (ρb := fun _ => []) (C := fun _ => True) (fun _ _ _ => rfl) trivial (fun (p : Nat) (row : (List Nat)) (many : Nat) => 
  (rb_ret (re_cb uw_tupL (re_lc (vs := [3]) (ρw := [.own (enc (p : Nat)), .own (enc (row : (List Nat))), .own (enc (many : Nat)), .any]) (ρx := fun (x_1 : Nat) => [.own (enc (p : Nat)), .own (enc (row : (List Nat))), .own (enc (many : Nat)), .own (enc (x_1 : Nat))]) rfl (ri_range2 (re_nat 1) (re_op ow_addN (re_v (i := 2) (a := (many : Nat)) rfl) (re_nat 1))) (by decide) (fun (x_1 : Nat) => (rg_name (i := 3) (ρ' := [.own (enc (p : Nat)), .own (enc (row : (List Nat))), .own (enc (many : Nat)), .own (enc (x_1 : Nat))]) (show 3 < 4 by decide) rfl)) (fun (x_1 : Nat) => rt_yes) (fun (x_1 : Nat) => (re_call3 (re_v (i := 0) (a := (p : Nat)) rfl) (re_v (i := 1) (a := (row : (List Nat))) rfl) (re_v (i := 3) (a := (x_1 : Nat)) rfl))))))) (by rw [vasW_fn] at h; exact h)⟩
/-! ### with_root -/
def wrB (p : Nat) (row : (List Nat)) (x : Nat) : M (Ctl (List Nat) Unit Unit) :=
  (bindW (bindW (bindW (b2W (b2W (bindW (b2W (retW (0 : Nat)) (retW ([] : List Nat)) fun a as => retW (a :: as)) fun xs => reqW (xs.length ≤ sizeLine) (retW xs)) (retW (row : (List Nat))) (fun xs ys : List Nat => reqW (xs.length + ys.length ≤ sizeLine) (retW (xs ++ ys)))) (b2W (retW (row : (List Nat))) (bindW (b2W (retW (0 : Nat)) (retW ([] : List Nat)) fun a as => retW (a :: as)) fun xs => reqW (xs.length ≤ sizeLine) (retW xs)) (fun xs ys : List Nat => reqW (xs.length + ys.length ≤ sizeLine) (retW (xs ++ ys)))) fun xs ys => retW (xs.zip ys)) fun X_ => reqW (X_.length ≤ sizeLine) (lcW (fun (x_1 : (Nat × Nat)) => (retW true)) (fun (x_1 : (Nat × Nat)) => (bindW (b2W (b2W (mapW (fun n : Nat => (n : Int)) (retW (x_1.1 : Nat))) (mapW (fun n : Nat => (n : Int)) (b2W (retW (x : Nat)) (retW (x_1.2 : Nat)) (fun a b : Nat => reqW (a < 2 ^ 63) (retW (a * b))))) (fun a b : Int => retW (a - b))) (mapW (fun n : Nat => (n : Int)) (retW (p : Nat))) (fun a b : Int => reqW (0 < b) (retW (a % b)))) fun z => reqW (0 ≤ z) (retW z.toNat))) X_ [])) fun xs : (Lst Nat) => retW xs.l) fun r => retW (.ret r))
theorem wrW_ex : ∃ g : Nat → (List Nat) → Nat → M (List Nat), ∀ p row x, g p row x = outW (wrB p row x) := ⟨fun p row x => outW (wrB p row x), fun _ _ _ => rfl⟩
/-- sealed -/
def wrW : Nat → (List Nat) → Nat → M (List Nat) := Classical.choose wrW_ex
theorem wrW_eq (p : Nat) (row : (List Nat)) (x : Nat) : wrW p row x = outW (wrB p row x) := Classical.choose_spec wrW_ex p row x
theorem wrW_fn : wrW = fun p row x => outW (wrB p row x) := funext fun p => funext fun row => funext fun x => wrW_eq p row x
theorem scWr : FnScope ["p", "row", "x", "higher", "number"] ["p", "row", "x"] (defScope sWr) := ⟨rfl, rfl, rfl, by decide +kernel, rfl, by decide +kernel, by decide +kernel⟩
theorem ok_wr (F : Fun K "with_root" "with_root" sWr f fd) (b : Bls mg) : FnOk P w K mg base CX0 1 f fd ["p", "row", "x"] (spW3 K T wrW) := by
  refine F.ok scWr (fun vs H Q E h => ?_) (fun cdv A outer s H vs Q E hr h => ?_)
  · exact spW3_len h
  · refine ⟨_, (pss_cons (ps_ret (pe_callTy call_tuple_of (by rfl) b.tuple (by decide +kernel) (pa_cons (pe_lc (own := [("higher", 3), ("number", 4)]) (g := (gTup K 2 (gCons (gName 3) (gCons (gName 4) gNil)))) (tt := tYes) (te := (tOp _ (tOp _ (tVar 3) (tOp _ (tVar 2) (tVar 4))) (tVar 0))) (by rfl) scWr.nd (RZ.pi_zipA (by rfl) b.zip (pa_cons (pe_op op_catA (pe_tup (pa_cons pe_int pa_nil)) (pv 1)) (pa_cons (pe_op op_catA (pv 1) (pe_tup (pa_cons pe_int pa_nil))) pa_nil))) (blkOk_by (own := [("higher", 3), ("number", 4)]) (N := ["p", "row", "x", "higher", "number"]) (sc := defScope sWr) (by decide +kernel)) (fun _ _ _ _ _ => (pg_tup (by rfl) (pgs_cons (pg_name (i := 3) scWr.nd rfl (Or.inl rfl)) (pgs_cons (pg_name (i := 4) scWr.nd rfl (Or.inl rfl)) pgs_nil)))) (fun _ _ _ _ _ => pts_nil) (fun _ _ _ _ _ => (pe_op op_mod (pe_op op_sub (pv 3) (pe_op op_mulNN (pv 2) (pv 4))) (pv 0)))) pa_nil)))
      pss_nil), w3_run (N := ["p", "row", "x", "higher", "number"]) psl_own psl_own psl_own (mB := wrB) (ρ := fun (p : Nat) (row : (List Nat)) (x : Nat) => [.own (enc (p : Nat)), .own (enc (row : (List Nat))), .own (enc (x : Nat)), .any, .any]) (ρn := fun _ => []) (ρb := fun _ => []) (C := fun _ => True) (fun _ _ _ => rfl) trivial (fun (p : Nat) (row : (List Nat)) (x : Nat) => 
  (rb_ret (re_cb uw_tupL (re_lc (vs := [3, 4]) (ρw := [.own (enc (p : Nat)), .own (enc (row : (List Nat))), .own (enc (x : Nat)), .any, .any]) (ρx := fun (x_1 : (Nat × Nat)) => [.own (enc (p : Nat)), .own (enc (row : (List Nat))), .own (enc (x : Nat)), .own (enc (x_1.1 : Nat)), .own (enc (x_1.2 : Nat))]) rfl (ri_zipT (re_op ow_cat (re_tupL (ras_cons (re_nat 0) ras_nil)) (re_v (i := 1) (a := (row : (List Nat))) rfl)) (re_op ow_cat (re_v (i := 1) (a := (row : (List Nat))) rfl) (re_tupL (ras_cons (re_nat 0) ras_nil)))) (by decide) (fun (x_1 : (Nat × Nat)) => (rg_two (i := 3) (j := 4) (ρ1 := [.own (enc (p : Nat)), .own (enc (row : (List Nat))), .own (enc (x : Nat)), .own (enc (x_1.1 : Nat)), .any]) (ρ' := [.own (enc (p : Nat)), .own (enc (row : (List Nat))), .own (enc (x : Nat)), .own (enc (x_1.1 : Nat)), .own (enc (x_1.2 : Nat))]) (show 3 < 5 by decide) (show 4 < 5 by decide) (by decide) rfl rfl)) (fun (x_1 : (Nat × Nat)) => rt_yes) (fun (x_1 : (Nat × Nat)) => (re_toN (re_op ow_mod (re_op ow_sub (re_ofN (re_v (i := 3) (a := (x_1.1 : Nat)) rfl)) (re_ofN (re_op ow_mulN (re_v (i := 2) (a := (x : Nat)) rfl) (re_v (i := 4) (a := (x_1.2 : Nat)) rfl)))) (re_ofN (re_v (i := 0) (a := (p : Nat)) rfl))))))))) (by rw [wrW_fn] at h; exact h)⟩
/-! ### through -/
def tgB (p : Nat) (pairs : (List (Nat × Nat))) : M (Ctl (List Nat) Unit Unit) :=
  (bindW (bindW (retW ([] : (List Nat))) fun xs => reqW (xs.length ≤ sizeLine) (retW xs)) fun (row_1 : (List Nat)) =>
  (bindW (bindW (b2W (retW (1 : Nat)) (retW ([] : List Nat)) fun a as => retW (a :: as)) fun xs => reqW (xs.length ≤ sizeLine) (retW xs)) fun (zeros_2 : (List Nat)) =>
  (bindW (retW (pairs : (List (Nat × Nat)))) fun X_ => seqW (forW (fun (it_4 : (Nat × Nat)) (s_3 : ((List Nat) × (List Nat))) =>
  (bindW (b2W (b2W (mapW (fun n : Nat => (n : Int)) (retW (it_4.2 : Nat))) (mapW (fun n : Nat => (n : Int)) (c3W (retW (p : Nat)) (retW (s_3.1 : (List Nat))) (retW (it_4.1 : Nat)) fun A_1 A_2 A_3 => pureW (valW A_1 A_2 A_3))) (fun a b : Int => retW (a - b))) (mapW (fun n : Nat => (n : Int)) (c2W (retW (p : Nat)) (c3W (retW (p : Nat)) (retW (s_3.2 : (List Nat))) (retW (it_4.1 : Nat)) fun A_1 A_2 A_3 => pureW (valW A_1 A_2 A_3)) fun A_1 A_2 => pureW (invW A_1 A_2))) (fun a b : Int => reqW (CMul a b) (retW (a * b)))) fun (times_5 : Int) =>
  (bindW (bindW (bindW (b2W (b2W (retW (s_3.1 : (List Nat))) (bindW (b2W (retW (0 : Nat)) (retW ([] : List Nat)) fun a as => retW (a :: as)) fun xs => reqW (xs.length ≤ sizeLine) (retW xs)) (fun xs ys : List Nat => reqW (xs.length + ys.length ≤ sizeLine) (retW (xs ++ ys)))) (retW (s_3.2 : (List Nat))) fun xs ys => retW (xs.zip ys)) fun X_ => reqW (X_.length ≤ sizeLine) (lcW (fun (x_6 : (Nat × Nat)) => (retW true)) (fun (x_6 : (Nat × Nat)) => (bindW (b2W (b2W (mapW (fun n : Nat => (n : Int)) (retW (x_6.1 : Nat))) (b2W (retW (times_5 : Int)) (mapW (fun n : Nat => (n : Int)) (retW (x_6.2 : Nat))) (fun a b : Int => reqW (CMul a b) (retW (a * b)))) (fun a b : Int => retW (a + b))) (mapW (fun n : Nat => (n : Int)) (retW (p : Nat))) (fun a b : Int => reqW (0 < b) (retW (a % b)))) fun z => reqW (0 ≤ z) (retW z.toNat))) X_ [])) fun xs : (Lst Nat) => retW xs.l) fun (row_7 : (List Nat)) =>
  (bindW (c3W (retW (p : Nat)) (retW (s_3.2 : (List Nat))) (retW (it_4.1 : Nat)) fun A_1 A_2 A_3 => pureW (wrW A_1 A_2 A_3)) fun (zeros_8 : (List Nat)) =>
  (retW (.nxt ((row_7, zeros_8) : ((List Nat) × (List Nat))))))))) X_ ((row_1, zeros_2) : ((List Nat) × (List Nat)))) fun (s_3 : ((List Nat) × (List Nat))) =>
  (bindW (retW (s_3.1 : (List Nat))) fun r => retW (.ret r)))))
theorem tgW_ex : ∃ g : Nat → (List (Nat × Nat)) → M (List Nat), ∀ p pairs, g p pairs = outW (tgB p pairs) := ⟨fun p pairs => outW (tgB p pairs), fun _ _ => rfl⟩
/-- sealed -/
def tgW : Nat → (List (Nat × Nat)) → M (List Nat) := Classical.choose tgW_ex
theorem tgW_eq (p : Nat) (pairs : (List (Nat × Nat))) : tgW p pairs = outW (tgB p pairs) := Classical.choose_spec tgW_ex p pairs
theorem tgW_fn : tgW = fun p pairs => outW (tgB p pairs) := funext fun p => funext fun pairs => tgW_eq p pairs
theorem scTg : FnScope ["p", "pairs", "row", "zeros", "x", "wanted", "times", "number", "more"] ["p", "pairs"] (defScope sTg) := ⟨rfl, rfl, rfl, by decide +kernel, rfl, by decide +kernel, by decide +kernel⟩
theorem ok_tg {f_inv f_val f_wr : Addr} {d_inv d_val d_wr : FuncData} (F : Fun K "through" "through" sTg f fd) (b : Bls mg) (c_inv : CalF P w K mg base 2 "inverse" f_inv d_inv ["p", "n"] (spW2 K T invW)) (c_val : CalF P w K mg base 1 "value" f_val d_val ["p", "row", "x"] (spW3 K T valW)) (c_wr : CalF P w K mg base 1 "with_root" f_wr d_wr ["p", "row", "x"] (spW3 K T wrW)) : FnOk P w K mg base CX0 3 f fd ["p", "pairs"] (spW2 K T tgW) := by
  refine F.ok scTg (fun vs H Q E h => ?_) (fun cdv A outer s H vs Q E hr h => ?_)
  · exact spW2_len h
  · refine ⟨_, (pss_cons (ps_set (i := 2) scTg.nd rfl (.inl rfl) (pe_tup pa_nil))
      (pss_cons (ps_set (i := 3) scTg.nd rfl (.inl rfl) (pe_tup (pa_cons pe_int pa_nil)))
      (pss_cons (ps_for PassesOwn.never rfl (pi_tup (pv 1)) (pg_tup (by rfl) (pgs_cons (pg_name (i := 4) scTg.nd rfl (Or.inl rfl)) (pgs_cons (pg_name (i := 5) scTg.nd rfl (Or.inl rfl)) pgs_nil)))
      (pss_cons (ps_set (i := 6) scTg.nd rfl (.inr rfl) (pe_op op_mul (pe_op op_sub (pv 5) (pe_call c_val.G (hr.mono (by decide)) (by rfl) c_val.g c_val.kp c_val.b .nil pass0 (pa_cons (pv 0) (pa_cons (pv 2) (pa_cons (pv 4) pa_nil))))) (pe_call c_inv.G (hr.mono (by decide)) (by rfl) c_inv.g c_inv.kp c_inv.b .nil pass0 (pa_cons (pv 0) (pa_cons (pe_call c_val.G (hr.mono (by decide)) (by rfl) c_val.g c_val.kp c_val.b .nil pass0 (pa_cons (pv 0) (pa_cons (pv 3) (pa_cons (pv 4) pa_nil)))) pa_nil)))))
      (pss_cons (ps_set (i := 2) scTg.nd rfl (.inl rfl) (pe_callTy call_tuple_of (by rfl) b.tuple (by decide +kernel) (pa_cons (pe_lc (own := [("number", 7), ("more", 8)]) (g := (gTup K 2 (gCons (gName 7) (gCons (gName 8) gNil)))) (tt := tYes) (te := (tOp _ (tOp _ (tVar 7) (tOp _ (tVar 6) (tVar 8))) (tVar 0))) (by rfl) scTg.nd (RZ.pi_zipA (by rfl) b.zip (pa_cons (pe_op op_catA (pv 2) (pe_tup (pa_cons pe_int pa_nil))) (pa_cons (pv 3) pa_nil))) (blkOk_by (own := [("number", 7), ("more", 8)]) (N := ["p", "pairs", "row", "zeros", "x", "wanted", "times", "number", "more"]) (sc := defScope sTg) (by decide +kernel)) (fun _ _ _ _ _ => (pg_tup (by rfl) (pgs_cons (pg_name (i := 7) scTg.nd rfl (Or.inl rfl)) (pgs_cons (pg_name (i := 8) scTg.nd rfl (Or.inl rfl)) pgs_nil)))) (fun _ _ _ _ _ => pts_nil) (fun _ _ _ _ _ => (pe_op op_mod (pe_op op_add (pv 7) (pe_op op_mul (pv 6) (pv 8))) (pv 0)))) pa_nil)))
      (pss_cons (ps_set (i := 3) scTg.nd rfl (.inl rfl) (pe_call c_wr.G (hr.mono (by decide)) (by rfl) c_wr.g c_wr.kp c_wr.b .nil pass0 (pa_cons (pv 0) (pa_cons (pv 3) (pa_cons (pv 4) pa_nil)))))
      pss_nil))))
      (pss_cons (ps_ret (pv 2))
      pss_nil)))), w2_run (N := ["p", "pairs", "row", "zeros", "x", "wanted", "times", "number", "more"]) psl_own psl_own (mB := tgB) (ρ := fun (p : Nat) (pairs : (List (Nat × Nat))) => [.own (enc (p : Nat)), .own (enc (pairs : (List (Nat × Nat)))), .any, .any, .any, .any, .any, .any, .any]) (ρn := fun _ => []) (ρb := fun _ => []) (C := fun _ => True) (fun _ _ => rfl) trivial (fun (p : Nat) (pairs : (List (Nat × Nat))) => 
  (rb_asg (ρ2 := fun (row_1 : (List Nat)) => [.own (enc (p : Nat)), .own (enc (pairs : (List (Nat × Nat)))), .own (enc (row_1 : (List Nat))), .any, .any, .any, .any, .any, .any]) (re_tupL (α := Nat) ras_nil) (fun (row_1 : (List Nat)) => rg_name (i := 2) (show 2 < 9 by decide) rfl) (fun (row_1 : (List Nat)) =>
  (rb_asg (ρ2 := fun (zeros_2 : (List Nat)) => [.own (enc (p : Nat)), .own (enc (pairs : (List (Nat × Nat)))), .own (enc (row_1 : (List Nat))), .own (enc (zeros_2 : (List Nat))), .any, .any, .any, .any, .any]) (re_tupL (ras_cons (re_nat 1) ras_nil)) (fun (zeros_2 : (List Nat)) => rg_name (i := 3) (show 3 < 9 by decide) rfl) (fun (zeros_2 : (List Nat)) =>
  (rb_for (s0 := ((row_1, zeros_2) : ((List Nat) × (List Nat)))) (ρl := fun (s_3 : ((List Nat) × (List Nat))) => [.own (enc (p : Nat)), .own (enc (pairs : (List (Nat × Nat)))), .own (enc (s_3.1 : (List Nat))), .own (enc (s_3.2 : (List Nat))), .any, .any, .any, .any, .any]) (ρx := fun (it_4 : (Nat × Nat)) (s_3 : ((List Nat) × (List Nat))) => [.own (enc (p : Nat)), .own (enc (pairs : (List (Nat × Nat)))), .own (enc (s_3.1 : (List Nat))), .own (enc (s_3.2 : (List Nat))), .own (enc (it_4.1 : Nat)), .own (enc (it_4.2 : Nat)), .any, .any, .any]) (ri_tup (re_v (i := 1) (a := (pairs : (List (Nat × Nat)))) rfl)) ⟨.eq _, ⟨.eq _, ⟨.eq _, ⟨.eq _, ⟨.any _, ⟨.any _, ⟨.any _, ⟨.any _, ⟨.any _, trivial⟩⟩⟩⟩⟩⟩⟩⟩⟩ (fun (it_4 : (Nat × Nat)) (s_3 : ((List Nat) × (List Nat))) => (rg_two (i := 4) (j := 5) (ρ1 := [.own (enc (p : Nat)), .own (enc (pairs : (List (Nat × Nat)))), .own (enc (s_3.1 : (List Nat))), .own (enc (s_3.2 : (List Nat))), .own (enc (it_4.1 : Nat)), .any, .any, .any, .any]) (ρ' := [.own (enc (p : Nat)), .own (enc (pairs : (List (Nat × Nat)))), .own (enc (s_3.1 : (List Nat))), .own (enc (s_3.2 : (List Nat))), .own (enc (it_4.1 : Nat)), .own (enc (it_4.2 : Nat)), .any, .any, .any]) (show 4 < 9 by decide) (show 5 < 9 by decide) (by decide) rfl rfl)) (fun (it_4 : (Nat × Nat)) (s_3 : ((List Nat) × (List Nat))) =>
  (rb_asg (ρ2 := fun (times_5 : Int) => [.own (enc (p : Nat)), .own (enc (pairs : (List (Nat × Nat)))), .own (enc (s_3.1 : (List Nat))), .own (enc (s_3.2 : (List Nat))), .own (enc (it_4.1 : Nat)), .own (enc (it_4.2 : Nat)), .own (enc (times_5 : Int)), .any, .any]) (re_op ow_mul (re_op ow_sub (re_ofN (re_v (i := 5) (a := (it_4.2 : Nat)) rfl)) (re_ofN (re_call3 (re_v (i := 0) (a := (p : Nat)) rfl) (re_v (i := 2) (a := (s_3.1 : (List Nat))) rfl) (re_v (i := 4) (a := (it_4.1 : Nat)) rfl)))) (re_ofN (re_call2 (re_v (i := 0) (a := (p : Nat)) rfl) (re_call3 (re_v (i := 0) (a := (p : Nat)) rfl) (re_v (i := 3) (a := (s_3.2 : (List Nat))) rfl) (re_v (i := 4) (a := (it_4.1 : Nat)) rfl))))) (fun (times_5 : Int) => rg_name (i := 6) (show 6 < 9 by decide) rfl) (fun (times_5 : Int) =>
  (rb_asg (ρ2 := fun (row_7 : (List Nat)) => [.own (enc (p : Nat)), .own (enc (pairs : (List (Nat × Nat)))), .own (enc (row_7 : (List Nat))), .own (enc (s_3.2 : (List Nat))), .own (enc (it_4.1 : Nat)), .own (enc (it_4.2 : Nat)), .own (enc (times_5 : Int)), .any, .any]) (re_cb uw_tupL (re_lc (vs := [7, 8]) (ρw := [.own (enc (p : Nat)), .own (enc (pairs : (List (Nat × Nat)))), .own (enc (s_3.1 : (List Nat))), .own (enc (s_3.2 : (List Nat))), .own (enc (it_4.1 : Nat)), .own (enc (it_4.2 : Nat)), .own (enc (times_5 : Int)), .any, .any]) (ρx := fun (x_6 : (Nat × Nat)) => [.own (enc (p : Nat)), .own (enc (pairs : (List (Nat × Nat)))), .own (enc (s_3.1 : (List Nat))), .own (enc (s_3.2 : (List Nat))), .own (enc (it_4.1 : Nat)), .own (enc (it_4.2 : Nat)), .own (enc (times_5 : Int)), .own (enc (x_6.1 : Nat)), .own (enc (x_6.2 : Nat))]) rfl (ri_zipT (re_op ow_cat (re_v (i := 2) (a := (s_3.1 : (List Nat))) rfl) (re_tupL (ras_cons (re_nat 0) ras_nil))) (re_v (i := 3) (a := (s_3.2 : (List Nat))) rfl)) (by decide) (fun (x_6 : (Nat × Nat)) => (rg_two (i := 7) (j := 8) (ρ1 := [.own (enc (p : Nat)), .own (enc (pairs : (List (Nat × Nat)))), .own (enc (s_3.1 : (List Nat))), .own (enc (s_3.2 : (List Nat))), .own (enc (it_4.1 : Nat)), .own (enc (it_4.2 : Nat)), .own (enc (times_5 : Int)), .own (enc (x_6.1 : Nat)), .any]) (ρ' := [.own (enc (p : Nat)), .own (enc (pairs : (List (Nat × Nat)))), .own (enc (s_3.1 : (List Nat))), .own (enc (s_3.2 : (List Nat))), .own (enc (it_4.1 : Nat)), .own (enc (it_4.2 : Nat)), .own (enc (times_5 : Int)), .own (enc (x_6.1 : Nat)), .own (enc (x_6.2 : Nat))]) (show 7 < 9 by decide) (show 8 < 9 by decide) (by decide) rfl rfl)) (fun (x_6 : (Nat × Nat)) => rt_yes) (fun (x_6 : (Nat × Nat)) => (re_toN (re_op ow_mod (re_op ow_add (re_ofN (re_v (i := 7) (a := (x_6.1 : Nat)) rfl)) (re_op ow_mul (re_v (i := 6) (a := (times_5 : Int)) rfl) (re_ofN (re_v (i := 8) (a := (x_6.2 : Nat)) rfl)))) (re_ofN (re_v (i := 0) (a := (p : Nat)) rfl))))))) (fun (row_7 : (List Nat)) => rg_name (i := 2) (show 2 < 9 by decide) rfl) (fun (row_7 : (List Nat)) =>
  (rb_asg (ρ2 := fun (zeros_8 : (List Nat)) => [.own (enc (p : Nat)), .own (enc (pairs : (List (Nat × Nat)))), .own (enc (row_7 : (List Nat))), .own (enc (zeros_8 : (List Nat))), .own (enc (it_4.1 : Nat)), .own (enc (it_4.2 : Nat)), .own (enc (times_5 : Int)), .any, .any]) (re_call3 (re_v (i := 0) (a := (p : Nat)) rfl) (re_v (i := 3) (a := (s_3.2 : (List Nat))) rfl) (re_v (i := 4) (a := (it_4.1 : Nat)) rfl)) (fun (zeros_8 : (List Nat)) => rg_name (i := 3) (show 3 < 9 by decide) rfl) (fun (zeros_8 : (List Nat)) =>
  (rb_end (s := ((row_7, zeros_8) : ((List Nat) × (List Nat)))) ⟨.eq _, ⟨.eq _, ⟨.eq _, ⟨.eq _, ⟨.any _, ⟨.any _, ⟨.any _, ⟨.any _, ⟨.any _, trivial⟩⟩⟩⟩⟩⟩⟩⟩⟩)))))))) (fun (s_3 : ((List Nat) × (List Nat))) =>
  (rb_ret (re_v (i := 2) (a := (s_3.1 : (List Nat))) rfl))))))))) (by rw [tgW_fn] at h; exact h)⟩
/-! ### row_through -/
def rtB (p : Nat) (k : Nat) (pairs : (List (Nat × Nat))) : M (Ctl (Option (List Nat)) Unit Unit) :=
  (bindW (b2W (bindW (retW (pairs : (List (Nat × Nat)))) fun xs : (List (Nat × Nat)) => retW xs.length) (retW (k : Nat)) (fun a b : Nat => retW (decide (a < b)))) fun B_ => seqW (if B_ = true then (fun _ _ => False) else (retW (.nxt (() : Unit)))) fun (s_1 : Unit) =>
  (bindW (c2W (retW (p : Nat)) (slTW (retW (pairs : (List (Nat × Nat)))) (retW none) (bindW (retW (k : Nat)) fun k => retW (some (k : Int)))) fun A_1 A_2 => pureW (tgW A_1 A_2)) fun (row_2 : (List Nat)) =>
  (bindW (bindW (bindW (slTW (retW (pairs : (List (Nat × Nat)))) (bindW (retW (k : Nat)) fun k => retW (some (k : Int))) (retW none)) fun X_ => reqW (X_.length ≤ sizeLine) (lcW (fun (x_3 : (Nat × Nat)) => (retW true)) (fun (x_3 : (Nat × Nat)) => (b2W (c3W (retW (p : Nat)) (retW (row_2 : (List Nat))) (retW (x_3.1 : Nat)) fun A_1 A_2 A_3 => pureW (valW A_1 A_2 A_3)) (retW (x_3.2 : Nat)) (fun a b : Nat => retW (decide (a = b))))) X_ [])) fun xs : Lst Bool => retW (xs.l.all id)) fun B_ => seqW (if B_ = true then (bindW (mapW some (retW (row_2 : (List Nat)))) fun r => retW (.ret r)) else (retW (.nxt (() : Unit)))) fun (s_4 : Unit) =>
  (bindW (retW (none : (Option (List Nat)))) fun r => retW (.ret r)))))
theorem rtW_ex : ∃ g : Nat → Nat → (List (Nat × Nat)) → M (Option (List Nat)), ∀ p k pairs, g p k pairs = outW (rtB p k pairs) := ⟨fun p k pairs => outW (rtB p k pairs), fun _ _ _ => rfl⟩
/-- sealed -/
def rtW : Nat → Nat → (List (Nat × Nat)) → M (Option (List Nat)) := Classical.choose rtW_ex
theorem rtW_eq (p : Nat) (k : Nat) (pairs : (List (Nat × Nat))) : rtW p k pairs = outW (rtB p k pairs) := Classical.choose_spec rtW_ex p k pairs
theorem rtW_fn : rtW = fun p k pairs => outW (rtB p k pairs) := funext fun p => funext fun k => funext fun pairs => rtW_eq p k pairs
theorem scRt : FnScope ["p", "k", "pairs", "row", "x", "wanted"] ["p", "k", "pairs"] (defScope sRt) := ⟨rfl, rfl, rfl, by decide +kernel, rfl, by decide +kernel, by decide +kernel⟩
theorem ok_rt {f_tg f_val : Addr} {d_tg d_val : FuncData} (F : Fun K "row_through" "row_through" sRt f fd) (b : Bls mg) (c_tg : CalF P w K mg base 3 "through" f_tg d_tg ["p", "pairs"] (spW2 K T tgW)) (c_val : CalF P w K mg base 1 "value" f_val d_val ["p", "row", "x"] (spW3 K T valW)) : FnOk P w K mg base CX0 4 f fd ["p", "k", "pairs"] (spW3 K T rtW) := by
  refine F.ok scRt (fun vs H Q E h => ?_) (fun cdv A outer s H vs Q E hr h => ?_)
  · exact spW3_len h
  · refine ⟨_, (pss_cons (ps_if (pt_cmpR op_lt (pe_callB call_len_seq (by rfl) b.len PySem.boot_len (pa_cons (pv 2) pa_nil)) (pv 1) (nomark _)) (pss_cons ps_dead
      pss_nil) pss_nil)
      (pss_cons (ps_set (i := 3) scRt.nd rfl (.inr rfl) (pe_call c_tg.G (hr.mono (by decide)) (by rfl) c_tg.g c_tg.kp c_tg.b .nil pass0 (pa_cons (pv 0) (pa_cons (pe_slice sl_tupA (pv 2) po_none (po_some (pv 1))) pa_nil))))
      (pss_cons (ps_if (pt_val (pe_callB (cr_all rfl) (by rfl) b.all (by decide +kernel) (pa_cons (pe_lc (own := [("x", 4), ("wanted", 5)]) (g := (gTup K 2 (gCons (gName 4) (gCons (gName 5) gNil)))) (tt := tYes) (te := (tOp _ (tCall (spW3 K T valW) [] E0 (tCons (tVar 0) (tCons (tVar 3) (tCons (tVar 4) tNil)))) (tVar 5))) (by rfl) scRt.nd (pi_tup (pe_slice sl_tupA (pv 2) (po_some (pv 1)) po_none)) (blkOk_by (own := [("x", 4), ("wanted", 5)]) (N := ["p", "k", "pairs", "row", "x", "wanted"]) (sc := defScope sRt) (by decide +kernel)) (fun _ _ _ _ _ => (pg_tup (by rfl) (pgs_cons (pg_name (i := 4) scRt.nd rfl (Or.inl rfl)) (pgs_cons (pg_name (i := 5) scRt.nd rfl (Or.inl rfl)) pgs_nil)))) (fun _ _ _ _ _ => pts_nil) (fun _ _ _ _ _ => (pe_cmpR op_eq (pe_call c_val.G (hr.mono (by decide)) (by rfl) c_val.g c_val.kp c_val.b .nil pass0 (pa_cons (pv 0) (pa_cons (pv 3) (pa_cons (pv 4) pa_nil)))) (pv 5) (nomark _)))) pa_nil))) (pss_cons (ps_ret (pv 3))
      pss_nil) pss_nil)
      (pss_cons (ps_ret pe_non)
      pss_nil)))), w3_run (N := ["p", "k", "pairs", "row", "x", "wanted"]) psl_own psl_own psl_own (mB := rtB) (ρ := fun (p : Nat) (k : Nat) (pairs : (List (Nat × Nat))) => [.own (enc (p : Nat)), .own (enc (k : Nat)), .own (enc (pairs : (List (Nat × Nat)))), .any, .any, .any]) (ρn := fun _ => []) (ρb := fun _ => []) (C := fun _ => True) (fun _ _ _ => rfl) trivial (fun (p : Nat) (k : Nat) (pairs : (List (Nat × Nat))) => 
  (rb_if (ρ1 := fun (s_1 : Unit) => [.own (enc (p : Nat)), .own (enc (k : Nat)), .own (enc (pairs : (List (Nat × Nat)))), .any, .any, .any]) (rt_test (re_op ow_ltN (re_cb uw_lenT (re_v (i := 2) (a := (pairs : (List (Nat × Nat)))) rfl)) (re_v (i := 1) (a := (k : Nat)) rfl)))
  rb_dead
  (rb_end (s := (() : Unit)) ⟨.eq _, ⟨.eq _, ⟨.eq _, ⟨.any _, ⟨.any _, ⟨.any _, trivial⟩⟩⟩⟩⟩⟩) (fun (s_1 : Unit) =>
  (rb_asg (ρ2 := fun (row_2 : (List Nat)) => [.own (enc (p : Nat)), .own (enc (k : Nat)), .own (enc (pairs : (List (Nat × Nat)))), .own (enc (row_2 : (List Nat))), .any, .any]) (re_call2 (re_v (i := 0) (a := (p : Nat)) rfl) (re_slT (re_v (i := 2) (a := (pairs : (List (Nat × Nat)))) rfl) ro_none (ro_nat (re_v (i := 1) (a := (k : Nat)) rfl)))) (fun (row_2 : (List Nat)) => rg_name (i := 3) (show 3 < 6 by decide) rfl) (fun (row_2 : (List Nat)) =>
  (rb_if (ρ1 := fun (s_4 : Unit) => [.own (enc (p : Nat)), .own (enc (k : Nat)), .own (enc (pairs : (List (Nat × Nat)))), .own (enc (row_2 : (List Nat))), .any, .any]) (rt_val (re_cb uw_all (re_lc (vs := [4, 5]) (ρw := [.own (enc (p : Nat)), .own (enc (k : Nat)), .own (enc (pairs : (List (Nat × Nat)))), .own (enc (row_2 : (List Nat))), .any, .any]) (ρx := fun (x_3 : (Nat × Nat)) => [.own (enc (p : Nat)), .own (enc (k : Nat)), .own (enc (pairs : (List (Nat × Nat)))), .own (enc (row_2 : (List Nat))), .own (enc (x_3.1 : Nat)), .own (enc (x_3.2 : Nat))]) rfl (ri_tup (re_slT (re_v (i := 2) (a := (pairs : (List (Nat × Nat)))) rfl) (ro_nat (re_v (i := 1) (a := (k : Nat)) rfl)) ro_none)) (by decide) (fun (x_3 : (Nat × Nat)) => (rg_two (i := 4) (j := 5) (ρ1 := [.own (enc (p : Nat)), .own (enc (k : Nat)), .own (enc (pairs : (List (Nat × Nat)))), .own (enc (row_2 : (List Nat))), .own (enc (x_3.1 : Nat)), .any]) (ρ' := [.own (enc (p : Nat)), .own (enc (k : Nat)), .own (enc (pairs : (List (Nat × Nat)))), .own (enc (row_2 : (List Nat))), .own (enc (x_3.1 : Nat)), .own (enc (x_3.2 : Nat))]) (show 4 < 6 by decide) (show 5 < 6 by decide) (by decide) rfl rfl)) (fun (x_3 : (Nat × Nat)) => rt_yes) (fun (x_3 : (Nat × Nat)) => (re_op ow_eqN (re_call3 (re_v (i := 0) (a := (p : Nat)) rfl) (re_v (i := 3) (a := (row_2 : (List Nat))) rfl) (re_v (i := 4) (a := (x_3.1 : Nat)) rfl)) (re_v (i := 5) (a := (x_3.2 : Nat)) rfl))))))
  (rb_ret (re_some (re_v (i := 3) (a := (row_2 : (List Nat))) rfl)))
  (rb_end (s := (() : Unit)) ⟨.eq _, ⟨.eq _, ⟨.eq _, ⟨.eq _, ⟨.any _, ⟨.any _, trivial⟩⟩⟩⟩⟩⟩) (fun (s_4 : Unit) =>
  (rb_ret (re_none (α := (List Nat))))))))))) (by rw [rtW_fn] at h; exact h)⟩
/-! ### letters -/
def letB (p : Nat) (q : Nat) (rows : (List (List Nat))) : M (Ctl (List Nat) Unit Unit) :=
  (bindW (bindW (bindW (retW (rows : (List (List Nat)))) fun X_ => lc2W (fun (row_1 : (List Nat)) => (retW true)) (fun (row_1 : (List Nat)) => (c3W (retW (p : Nat)) (retW (row_1 : (List Nat))) (retW (q : Nat)) fun A_1 A_2 A_3 => pureW (vasW A_1 A_2 A_3))) (fun (row_1 : (List Nat)) (letter_2 : Nat) => (retW true)) (fun (row_1 : (List Nat)) (letter_2 : Nat) => (retW (letter_2 : Nat))) X_ []) fun xs : (Lst Nat) => retW xs.l) fun r => retW (.ret r))
theorem letW_ex : ∃ g : Nat → Nat → (List (List Nat)) → M (List Nat), ∀ p q rows, g p q rows = outW (letB p q rows) := ⟨fun p q rows => outW (letB p q rows), fun _ _ _ => rfl⟩
/-- sealed -/
def letW : Nat → Nat → (List (List Nat)) → M (List Nat) := Classical.choose letW_ex
theorem letW_eq (p : Nat) (q : Nat) (rows : (List (List Nat))) : letW p q rows = outW (letB p q rows) := Classical.choose_spec letW_ex p q rows
theorem letW_fn : letW = fun p q rows => outW (letB p q rows) := funext fun p => funext fun q => funext fun rows => letW_eq p q rows
theorem scLet : FnScope ["p", "q", "rows", "row", "letter"] ["p", "q", "rows"] (defScope sLet) := ⟨rfl, rfl, rfl, by decide +kernel, rfl, by decide +kernel, by decide +kernel⟩
theorem ok_let {f_vas : Addr} {d_vas : FuncData} (F : Fun K "letters" "letters" sLet f fd) (b : Bls mg) (c_vas : CalF P w K mg base 2 "values" f_vas d_vas ["p", "row", "many"] (spW3 K T vasW)) : FnOk P w K mg base CX0 3 f fd ["p", "q", "rows"] (spW3 K T letW) := by
  refine F.ok scLet (fun vs H Q E h => ?_) (fun cdv A outer s H vs Q E hr h => ?_)
  · exact spW3_len h
  · refine ⟨_, (pss_cons (ps_ret (pe_callTy call_tuple_of (by rfl) b.tuple (by decide +kernel) (pa_cons (pe_lc2 (own := [("row", 3), ("letter", 4)]) (vs1 := [4]) (g := (gName 3)) (g1 := (gName 4)) (wi1 := (iTup K (tCall (spW3 K T vasW) [] E0 (tCons (tVar 0) (tCons (tVar 3) (tCons (tVar 1) tNil)))))) (tt := tYes) (tt1 := tYes) (te := (tVar 4)) (by rfl) scLet.nd (pi_tup (pv 2)) (blkOk_by (own := [("row", 3), ("letter", 4)]) (N := ["p", "q", "rows", "row", "letter"]) (sc := defScope sLet) (by decide +kernel)) (by decide) (fun _ _ _ _ _ => (pg_name (i := 3) scLet.nd rfl (Or.inl rfl))) (fun _ _ _ _ _ => pts_nil) (fun _ _ _ _ _ => (pi_tup (pe_call c_vas.G (hr.mono (by decide)) (by rfl) c_vas.g c_vas.kp c_vas.b .nil pass0 (pa_cons (pv 0) (pa_cons (pv 3) (pa_cons (pv 1) pa_nil)))))) (fun _ _ _ _ _ => (pg_name (i := 4) scLet.nd rfl (Or.inl rfl))) (fun _ _ _ _ _ => pts_nil) (fun _ _ _ _ _ => (pv 4))) pa_nil)))
      pss_nil), w3_run (N := ["p", "q", "rows", "row", "letter"]) psl_own psl_own psl_own (mB := letB) (ρ := fun (p : Nat) (q : Nat) (rows : (List (List Nat))) => [.own (enc (p : Nat)), .own (enc (q : Nat)), .own (enc (rows : (List (List Nat)))), .any, .any]) (ρn := fun _ => []) (ρb := fun _ => []) (C := fun _ => True) (fun _ _ _ => rfl) trivial (fun (p : Nat) (q : Nat) (rows : (List (List Nat))) => 
  (rb_ret (re_cb uw_tupL (re_lc2 (vs := [3, 4]) (vs1 := [4]) (ρw := [.own (enc (p : Nat)), .own (enc (q : Nat)), .own (enc (rows : (List (List Nat)))), .any, .any]) (ρx := fun (row_1 : (List Nat)) => [.own (enc (p : Nat)), .own (enc (q : Nat)), .own (enc (rows : (List (List Nat)))), .own (enc (row_1 : (List Nat))), .any]) (ρv := fun (row_1 : (List Nat)) => [.own (enc (p : Nat)), .own (enc (q : Nat)), .own (enc (rows : (List (List Nat)))), .own (enc (row_1 : (List Nat))), .any]) (ρy := fun (row_1 : (List Nat)) (letter_2 : Nat) => [.own (enc (p : Nat)), .own (enc (q : Nat)), .own (enc (rows : (List (List Nat)))), .own (enc (row_1 : (List Nat))), .own (enc (letter_2 : Nat))]) rfl (ri_tup (re_v (i := 2) (a := (rows : (List (List Nat)))) rfl)) (by decide) (fun (row_1 : (List Nat)) => (rg_name (i := 3) (ρ' := [.own (enc (p : Nat)), .own (enc (q : Nat)), .own (enc (rows : (List (List Nat)))), .own (enc (row_1 : (List Nat))), .any]) (show 3 < 5 by decide) rfl)) (fun (row_1 : (List Nat)) => rt_yes) (fun (row_1 : (List Nat)) => (ri_tup (re_call3 (re_v (i := 0) (a := (p : Nat)) rfl) (re_v (i := 3) (a := (row_1 : (List Nat))) rfl) (re_v (i := 1) (a := (q : Nat)) rfl)))) (fun (row_1 : (List Nat)) => rfl) (by decide) (fun (row_1 : (List Nat)) (letter_2 : Nat) => (rg_name (i := 4) (ρ' := [.own (enc (p : Nat)), .own (enc (q : Nat)), .own (enc (rows : (List (List Nat)))), .own (enc (row_1 : (List Nat))), .own (enc (letter_2 : Nat))]) (show 4 < 5 by decide) rfl)) (fun (row_1 : (List Nat)) (letter_2 : Nat) => rt_yes) (fun (row_1 : (List Nat)) (letter_2 : Nat) => (re_v (i := 4) (a := (letter_2 : Nat)) rfl)))))) (by rw [letW_fn] at h; exact h)⟩
/-! ### came -/
def camB (q : Nat) (hand : Nat) (lot : (List Nat)) (source : Nat) : M (Ctl (List Nat) Unit Unit) :=
  (bindW (c4W (retW (q : Nat)) (retW (hand : Nat)) (retW (lot : (List Nat))) (retW (source : Nat)) fun A_1 A_2 A_3 A_4 => pureW (splW A_1 A_2 A_3 A_4)) fun (lost_1 : (List Nat)) =>
  (bindW (bindW (bindW (bindW (retW (q : Nat)) fun k => reqW (k < 4611686018427387904) (retW (List.range k))) fun X_ => reqW (X_.length ≤ sizeLine) (lcW (fun (j_2 : Nat) => (b2W (retW (j_2 : Nat)) (retW (lost_1 : (List Nat))) (fun (x : Nat) (xs : (List Nat)) => retW (!decide (x ∈ xs))))) (fun (j_2 : Nat) => (retW (j_2 : Nat))) X_ [])) fun xs : (Lst Nat) => retW xs.l) fun r => retW (.ret r)))
theorem camW_ex : ∃ g : Nat → Nat → (List Nat) → Nat → M (List Nat), ∀ q hand lot source, g q hand lot source = outW (camB q hand lot source) := ⟨fun q hand lot source => outW (camB q hand lot source), fun _ _ _ _ => rfl⟩
/-- sealed -/
def camW : Nat → Nat → (List Nat) → Nat → M (List Nat) := Classical.choose camW_ex
theorem camW_eq (q : Nat) (hand : Nat) (lot : (List Nat)) (source : Nat) : camW q hand lot source = outW (camB q hand lot source) := Classical.choose_spec camW_ex q hand lot source
theorem camW_fn : camW = fun q hand lot source => outW (camB q hand lot source) := funext fun q => funext fun hand => funext fun lot => funext fun source => camW_eq q hand lot source
theorem scCam : FnScope ["q", "hand", "lot", "source", "lost", "j"] ["q", "hand", "lot", "source"] (defScope sCam) := ⟨rfl, rfl, rfl, by decide +kernel, rfl, by decide +kernel, by decide +kernel⟩
theorem ok_cam {f_spl : Addr} {d_spl : FuncData} (F : FunS K "came" sCam f fd) (b : Bls mg) (c_spl : CalS P w K mg base 4 "spoilt" f_spl d_spl ["q", "hand", "lot", "source"] (spW4 K T splW)) (q_spl_3_0123 : KBinds K d_spl ["q", "hand", "lot", "source"] ["source"] (gN 3 [0, 1, 2, 3]) (gN 3 [0, 1, 2, 3])) : FnOk P w K mg base CX0 5 f fd ["q", "hand", "lot", "source"] (spW4 K T camW) := by
  refine F.go scCam (fun vs H Q E h => ?_) (fun cdv A outer s H vs Q E hr h => ?_)
  · exact spW4_len h
  · refine ⟨_, (pss_cons (ps_set (i := 4) scCam.nd rfl (.inr rfl) (pe_callK c_spl.G (hr.mono (by decide)) (by rfl) c_spl.g c_spl.kp q_spl_3_0123 pass0 (pa_cons (pv 0) (pa_cons (pv 1) (pa_cons (pv 2) pa_nil))) (pk_cons (pv 3) pk_nil)))
      (pss_cons (ps_ret (pe_callTy call_tuple_of (by rfl) b.tuple (by decide +kernel) (pa_cons (pe_lc (own := [("j", 5)]) (g := (gName 5)) (tt := (tTest (tOp (rIn K true) (tVar 5) (tVar 4)))) (te := (tVar 5)) (by rfl) scCam.nd (pi_range1 (by rfl) b.range (pa_cons (pv 0) pa_nil)) (blkOk_by (own := [("j", 5)]) (N := ["q", "hand", "lot", "source", "lost", "j"]) (sc := defScope sCam) (by decide +kernel)) (fun _ _ _ _ _ => (pg_name (i := 5) scCam.nd rfl (Or.inl rfl))) (fun _ _ _ _ _ => (pts_one (pt_cmpR op_notIn_seq (pv 5) (pv 4) (by rfl)))) (fun _ _ _ _ _ => (pv 5))) pa_nil)))
      pss_nil)), w4_run (N := ["q", "hand", "lot", "source", "lost", "j"]) psl_own psl_own psl_own psl_own (mB := camB) (ρ := fun (q : Nat) (hand : Nat) (lot : (List Nat)) (source : Nat) => [.own (enc (q : Nat)), .own (enc (hand : Nat)), .own (enc (lot : (List Nat))), .own (enc (source : Nat)), .any, .any]) (ρn := fun _ => []) (ρb := fun _ => []) (C := fun _ => True) (fun _ _ _ _ => rfl) trivial (fun (q : Nat) (hand : Nat) (lot : (List Nat)) (source : Nat) => 
  (rb_asg (ρ2 := fun (lost_1 : (List Nat)) => [.own (enc (q : Nat)), .own (enc (hand : Nat)), .own (enc (lot : (List Nat))), .own (enc (source : Nat)), .own (enc (lost_1 : (List Nat))), .any]) (rk_spl_3_0123 (re_v (i := 0) (a := (q : Nat)) rfl) (re_v (i := 1) (a := (hand : Nat)) rfl) (re_v (i := 2) (a := (lot : (List Nat))) rfl) (re_v (i := 3) (a := (source : Nat)) rfl)) (fun (lost_1 : (List Nat)) => rg_name (i := 4) (show 4 < 6 by decide) rfl) (fun (lost_1 : (List Nat)) =>
  (rb_ret (re_cb uw_tupL (re_lc (vs := [5]) (ρw := [.own (enc (q : Nat)), .own (enc (hand : Nat)), .own (enc (lot : (List Nat))), .own (enc (source : Nat)), .own (enc (lost_1 : (List Nat))), .any]) (ρx := fun (j_2 : Nat) => [.own (enc (q : Nat)), .own (enc (hand : Nat)), .own (enc (lot : (List Nat))), .own (enc (source : Nat)), .own (enc (lost_1 : (List Nat))), .own (enc (j_2 : Nat))]) rfl (ri_range (re_v (i := 0) (a := (q : Nat)) rfl)) (by decide) (fun (j_2 : Nat) => (rg_name (i := 5) (ρ' := [.own (enc (q : Nat)), .own (enc (hand : Nat)), .own (enc (lot : (List Nat))), .own (enc (source : Nat)), .own (enc (lost_1 : (List Nat))), .own (enc (j_2 : Nat))]) (show 5 < 6 by decide) rfl)) (fun (j_2 : Nat) => (rt_test (re_op ow_ninT (re_v (i := 5) (a := (j_2 : Nat)) rfl) (re_v (i := 4) (a := (lost_1 : (List Nat))) rfl)))) (fun (j_2 : Nat) => (re_v (i := 5) (a := (j_2 : Nat)) rfl)))))))) (by rw [camW_fn] at h; exact h)⟩
end
end Bf
namespace Bf
open PySem PySem.Spec PyProof.Rows L2 LamX NdefX
noncomputable section
variable {P : Program} {w : World} {K : PySem.W.Frag} {mg : Str → Option Value} {base : Heap} {f : Addr} {fd : FuncData} {k : Nat} {T : List (Addr × Str)}
/-! ### tellable -/
def tlbB (q : Nat) (f : Nat) : M (Ctl Nat Unit Unit) :=
  (bindW (bindW (b2W (b2W (mapW (fun n : Nat => (n : Int)) (retW (q : Nat))) (mapW (fun n : Nat => (n : Int)) (retW (f : Nat))) (fun a b : Int => retW (a - b))) (mapW (fun n : Nat => (n : Int)) (retW (0 : Nat))) (fun a b : Int => retW (max a b))) fun z => reqW (0 ≤ z) (retW z.toNat)) fun r => retW (.ret r))
theorem tlbW_ex : ∃ g : Nat → Nat → M Nat, ∀ q f, g q f = outW (tlbB q f) := ⟨fun q f => outW (tlbB q f), fun _ _ => rfl⟩
/-- sealed -/
def tlbW : Nat → Nat → M Nat := Classical.choose tlbW_ex
theorem tlbW_eq (q : Nat) (f : Nat) : tlbW q f = outW (tlbB q f) := Classical.choose_spec tlbW_ex q f
theorem tlbW_fn : tlbW = fun q f => outW (tlbB q f) := funext fun q => funext fun f => tlbW_eq q f
theorem scTlb : FnScope ["q", "f"] ["q", "f"] (defScope sTlb) := ⟨rfl, rfl, rfl, by decide +kernel, rfl, by decide +kernel, by decide +kernel⟩
theorem ok_tlb (F : Fun K "tellable" "tellable" sTlb f fd) (b : Bls mg) : FnOk P w K mg base CX0 1 f fd ["q", "f"] (spW2 K T tlbW) := by
  refine F.ok scTlb (fun vs H Q E h => ?_) (fun cdv A outer s H vs Q E hr h => ?_)
  · exact spW2_len h
  · refine ⟨_, (pss_cons (ps_ret (pe_callB (call_max2 rfl) (by rfl) b.max (by decide +kernel) (pa_cons (pe_op op_sub (pv 0) (pv 1)) (pa_cons pe_int pa_nil))))
      pss_nil), w2_run (N := ["q", "f"]) psl_own psl_own (mB := tlbB) (ρ := fun (q : Nat) (f : Nat) => [.own (enc (q : Nat)), .own (enc (f : Nat))]) (ρn := fun _ => []) (ρb := fun _ => []) (C := fun _ => True) (fun _ _ => rfl) trivial (fun (q : Nat) (f : Nat) => 
  (rb_ret (re_toN (re_cb2 ow_maxZ (re_op ow_sub (re_ofN (re_v (i := 0) (a := (q : Nat)) rfl)) (re_ofN (re_v (i := 1) (a := (f : Nat)) rfl))) (re_ofN (re_nat 0)))))) (by rw [tlbW_fn] at h; exact h)⟩
/-! ### has_bit -/
def habB (hand : Nat) (k : Nat) : M (Ctl Bool Unit Unit) :=
  (bindW (b2W (b2W (b2W (retW (hand : Nat)) (retW (k : Nat)) (fun a b : Nat => retW (a / 2 ^ b))) (retW (1 : Nat)) (fun a b : Nat => retW (a &&& b))) (retW (1 : Nat)) (fun a b : Nat => retW (decide (a = b)))) fun r => retW (.ret r))
theorem habW_ex : ∃ g : Nat → Nat → M Bool, ∀ hand k, g hand k = outW (habB hand k) := ⟨fun hand k => outW (habB hand k), fun _ _ => rfl⟩
/-- sealed -/
def habW : Nat → Nat → M Bool := Classical.choose habW_ex
theorem habW_eq (hand : Nat) (k : Nat) : habW hand k = outW (habB hand k) := Classical.choose_spec habW_ex hand k
theorem habW_fn : habW = fun hand k => outW (habB hand k) := funext fun hand => funext fun k => habW_eq hand k
theorem scHab : FnScope ["hand", "k"] ["hand", "k"] (defScope sHab) := ⟨rfl, rfl, rfl, by decide +kernel, rfl, by decide +kernel, by decide +kernel⟩
theorem ok_hab (F : Fun K "has_bit" "has_bit" sHab f fd) (b : Bls mg) : FnOk P w K mg base CX0 1 f fd ["hand", "k"] (spW2 K T habW) := by
  refine F.ok scHab (fun vs H Q E h => ?_) (fun cdv A outer s H vs Q E hr h => ?_)
  · exact spW2_len h
  · refine ⟨_, (pss_cons (ps_ret (pe_cmpR op_eq (pe_op op_andN (pe_op op_shrNN (pv 0) (pv 1)) pe_int) pe_int (nomark _)))
      pss_nil), w2_run (N := ["hand", "k"]) psl_own psl_own (mB := habB) (ρ := fun (hand : Nat) (k : Nat) => [.own (enc (hand : Nat)), .own (enc (k : Nat))]) (ρn := fun _ => []) (ρb := fun _ => []) (C := fun _ => True) (fun _ _ => rfl) trivial (fun (hand : Nat) (k : Nat) => 
  (rb_ret (re_op ow_eqN (re_op ow_andN (re_op ow_shrN (re_v (i := 0) (a := (hand : Nat)) rfl) (re_v (i := 1) (a := (k : Nat)) rfl)) (re_nat 1)) (re_nat 1)))) (by rw [habW_fn] at h; exact h)⟩
/-! ### arc -/
def arqB (q : Nat) (j : Nat) (k : Nat) : M (Ctl Nat Unit Unit) :=
  (bindW (bindW (b2W (b2W (mapW (fun n : Nat => (n : Int)) (retW (k : Nat))) (mapW (fun n : Nat => (n : Int)) (retW (j : Nat))) (fun a b : Int => retW (a - b))) (mapW (fun n : Nat => (n : Int)) (retW (q : Nat))) (fun a b : Int => reqW (0 < b) (retW (a % b)))) fun z => reqW (0 ≤ z) (retW z.toNat)) fun r => retW (.ret r))
theorem arqW_ex : ∃ g : Nat → Nat → Nat → M Nat, ∀ q j k, g q j k = outW (arqB q j k) := ⟨fun q j k => outW (arqB q j k), fun _ _ _ => rfl⟩
/-- sealed -/
def arqW : Nat → Nat → Nat → M Nat := Classical.choose arqW_ex
theorem arqW_eq (q : Nat) (j : Nat) (k : Nat) : arqW q j k = outW (arqB q j k) := Classical.choose_spec arqW_ex q j k
theorem arqW_fn : arqW = fun q j k => outW (arqB q j k) := funext fun q => funext fun j => funext fun k => arqW_eq q j k
theorem scArq : FnScope ["q", "j", "k"] ["q", "j", "k"] (defScope sArq) := ⟨rfl, rfl, rfl, by decide +kernel, rfl, by decide +kernel, by decide +kernel⟩
theorem ok_arq (F : Fun K "arc" "arc" sArq f fd) (b : Bls mg) : FnOk P w K mg base CX0 1 f fd ["q", "j", "k"] (spW3 K T arqW) := by
  refine F.ok scArq (fun vs H Q E h => ?_) (fun cdv A outer s H vs Q E hr h => ?_)
  · exact spW3_len h
  · refine ⟨_, (pss_cons (ps_ret (pe_op op_mod (pe_op op_sub (pv 2) (pv 1)) (pv 0)))
      pss_nil), w3_run (N := ["q", "j", "k"]) psl_own psl_own psl_own (mB := arqB) (ρ := fun (q : Nat) (j : Nat) (k : Nat) => [.own (enc (q : Nat)), .own (enc (j : Nat)), .own (enc (k : Nat))]) (ρn := fun _ => []) (ρb := fun _ => []) (C := fun _ => True) (fun _ _ _ => rfl) trivial (fun (q : Nat) (j : Nat) (k : Nat) => 
  (rb_ret (re_toN (re_op ow_mod (re_op ow_sub (re_ofN (re_v (i := 2) (a := (k : Nat)) rfl)) (re_ofN (re_v (i := 1) (a := (j : Nat)) rfl))) (re_ofN (re_v (i := 0) (a := (q : Nat)) rfl)))))) (by rw [arqW_fn] at h; exact h)⟩
/-! ### across -/
def acrB (hand : Nat) (k : Nat) : M (Ctl Nat Unit Unit) :=
  (bindW (b2W (retW (hand : Nat)) (b2W (retW (1 : Nat)) (retW (k : Nat)) (fun a b : Nat => reqW (a = 1 ∧ b ≤ 134217727) (retW (2 ^ b)))) (fun a b : Nat => retW (a ^^^ b))) fun r => retW (.ret r))
theorem acrW_ex : ∃ g : Nat → Nat → M Nat, ∀ hand k, g hand k = outW (acrB hand k) := ⟨fun hand k => outW (acrB hand k), fun _ _ => rfl⟩
/-- sealed -/
def acrW : Nat → Nat → M Nat := Classical.choose acrW_ex
theorem acrW_eq (hand : Nat) (k : Nat) : acrW hand k = outW (acrB hand k) := Classical.choose_spec acrW_ex hand k
theorem acrW_fn : acrW = fun hand k => outW (acrB hand k) := funext fun hand => funext fun k => acrW_eq hand k
theorem scAcr : FnScope ["hand", "k"] ["hand", "k"] (defScope sAcr) := ⟨rfl, rfl, rfl, by decide +kernel, rfl, by decide +kernel, by decide +kernel⟩
theorem ok_acr (F : Fun K "across" "across" sAcr f fd) (b : Bls mg) : FnOk P w K mg base CX0 1 f fd ["hand", "k"] (spW2 K T acrW) := by
  refine F.ok scAcr (fun vs H Q E h => ?_) (fun cdv A outer s H vs Q E hr h => ?_)
  · exact spW2_len h
  · refine ⟨_, (pss_cons (ps_ret (pe_op op_xorN (pv 0) (pe_op op_bit pe_int (pv 1))))
      pss_nil), w2_run (N := ["hand", "k"]) psl_own psl_own (mB := acrB) (ρ := fun (hand : Nat) (k : Nat) => [.own (enc (hand : Nat)), .own (enc (k : Nat))]) (ρn := fun _ => []) (ρb := fun _ => []) (C := fun _ => True) (fun _ _ => rfl) trivial (fun (hand : Nat) (k : Nat) => 
  (rb_ret (re_op ow_xorN (re_v (i := 0) (a := (hand : Nat)) rfl) (re_op ow_bit (re_nat 1) (re_v (i := 1) (a := (k : Nat)) rfl))))) (by rw [acrW_fn] at h; exact h)⟩
/-! ### crossed -/
def crsB (q : Nat) (hand : Nat) (j : Nat) (source : Nat) : M (Ctl (List Nat) Unit Unit) :=
  (bindW (b2W (retW (hand : Nat)) (retW (source : Nat)) (fun a b : Nat => retW (a ^^^ b))) fun (apart_1 : Nat) =>
  (bindW (c2W (retW (apart_1 : Nat)) (retW (j : Nat)) fun A_1 A_2 => pureW (habW A_1 A_2)) fun B_ => seqW (if B_ = true then (bindW (c3W (retW (q : Nat)) (retW (apart_1 : Nat)) (retW (j : Nat)) fun A_1 A_2 A_3 => pureW (rbdW A_1 A_2 A_3)) fun r => retW (.ret r)) else (retW (.nxt (() : Unit)))) fun (s_2 : Unit) =>
  (bindW (b2W (b2W (bindW (b2W (retW (j : Nat)) (retW ([] : List Nat)) fun a as => retW (a :: as)) fun xs => reqW (xs.length ≤ sizeLine) (retW xs)) (c3W (retW (q : Nat)) (retW (apart_1 : Nat)) (retW (j : Nat)) fun A_1 A_2 A_3 => pureW (rbdW A_1 A_2 A_3)) (fun xs ys : List Nat => reqW (xs.length + ys.length ≤ sizeLine) (retW (xs ++ ys)))) (bindW (b2W (retW (j : Nat)) (retW ([] : List Nat)) fun a as => retW (a :: as)) fun xs => reqW (xs.length ≤ sizeLine) (retW xs)) (fun xs ys : List Nat => reqW (xs.length + ys.length ≤ sizeLine) (retW (xs ++ ys)))) fun r => retW (.ret r))))
theorem crsW_ex : ∃ g : Nat → Nat → Nat → Nat → M (List Nat), ∀ q hand j source, g q hand j source = outW (crsB q hand j source) := ⟨fun q hand j source => outW (crsB q hand j source), fun _ _ _ _ => rfl⟩
/-- sealed -/
def crsW : Nat → Nat → Nat → Nat → M (List Nat) := Classical.choose crsW_ex
theorem crsW_eq (q : Nat) (hand : Nat) (j : Nat) (source : Nat) : crsW q hand j source = outW (crsB q hand j source) := Classical.choose_spec crsW_ex q hand j source
theorem crsW_fn : crsW = fun q hand j source => outW (crsB q hand j source) := funext fun q => funext fun hand => funext fun j => funext fun source => crsW_eq q hand j source
theorem scCrs : FnScope ["q", "hand", "j", "source", "apart"] ["q", "hand", "j", "source"] (defScope sCrs) := ⟨rfl, rfl, rfl, by decide +kernel, rfl, by decide +kernel, by decide +kernel⟩
theorem ok_crs {f_hab f_rbd : Addr} {d_hab d_rbd : FuncData} (F : FunS K "crossed" sCrs f fd) (b : Bls mg) (c_hab : CalF P w K mg base 1 "has_bit" f_hab d_hab ["hand", "k"] (spW2 K T habW)) (c_rbd : CalF P w K mg base 5 "round_bits" f_rbd d_rbd ["q", "hand", "j"] (spW3 K T rbdW)) : FnOk P w K mg base CX0 6 f fd ["q", "hand", "j", "source"] (spW4 K T crsW) := by
  refine F.go scCrs (fun vs H Q E h => ?_) (fun cdv A outer s H vs Q E hr h => ?_)
  · exact spW4_len h
  · refine ⟨_, (pss_cons (ps_set (i := 4) scCrs.nd rfl (.inl rfl) (pe_op op_xorN (pv 1) (pv 3)))
      (pss_cons (ps_if (pt_val (pe_call c_hab.G (hr.mono (by decide)) (by rfl) c_hab.g c_hab.kp c_hab.b .nil pass0 (pa_cons (pv 4) (pa_cons (pv 2) pa_nil)))) (pss_cons (ps_ret (pe_call c_rbd.G (hr.mono (by decide)) (by rfl) c_rbd.g c_rbd.kp c_rbd.b .nil pass0 (pa_cons (pv 0) (pa_cons (pv 4) (pa_cons (pv 2) pa_nil)))))
      pss_nil) pss_nil)
      (pss_cons (ps_ret (pe_op op_catA (pe_op op_catA (pe_tup (pa_cons (pv 2) pa_nil)) (pe_call c_rbd.G (hr.mono (by decide)) (by rfl) c_rbd.g c_rbd.kp c_rbd.b .nil pass0 (pa_cons (pv 0) (pa_cons (pv 4) (pa_cons (pv 2) pa_nil))))) (pe_tup (pa_cons (pv 2) pa_nil))))
      pss_nil))), w4_run (N := ["q", "hand", "j", "source", "apart"]) psl_own psl_own psl_own psl_own (mB := crsB) (ρ := fun (q : Nat) (hand : Nat) (j : Nat) (source : Nat) => [.own (enc (q : Nat)), .own (enc (hand : Nat)), .own (enc (j : Nat)), .own (enc (source : Nat)), .any]) (ρn := fun _ => []) (ρb := fun _ => []) (C := fun _ => True) (fun _ _ _ _ => rfl) trivial (fun (q : Nat) (hand : Nat) (j : Nat) (source : Nat) => 
  (rb_asg (ρ2 := fun (apart_1 : Nat) => [.own (enc (q : Nat)), .own (enc (hand : Nat)), .own (enc (j : Nat)), .own (enc (source : Nat)), .own (enc (apart_1 : Nat))]) (re_op ow_xorN (re_v (i := 1) (a := (hand : Nat)) rfl) (re_v (i := 3) (a := (source : Nat)) rfl)) (fun (apart_1 : Nat) => rg_name (i := 4) (show 4 < 5 by decide) rfl) (fun (apart_1 : Nat) =>
  (rb_if (ρ1 := fun (s_2 : Unit) => [.own (enc (q : Nat)), .own (enc (hand : Nat)), .own (enc (j : Nat)), .own (enc (source : Nat)), .own (enc (apart_1 : Nat))]) (rt_val (re_call2 (re_v (i := 4) (a := (apart_1 : Nat)) rfl) (re_v (i := 2) (a := (j : Nat)) rfl)))
  (rb_ret (re_call3 (re_v (i := 0) (a := (q : Nat)) rfl) (re_v (i := 4) (a := (apart_1 : Nat)) rfl) (re_v (i := 2) (a := (j : Nat)) rfl)))
  (rb_end (s := (() : Unit)) ⟨.eq _, ⟨.eq _, ⟨.eq _, ⟨.eq _, ⟨.eq _, trivial⟩⟩⟩⟩⟩) (fun (s_2 : Unit) =>
  (rb_ret (re_op ow_cat (re_op ow_cat (re_tupL (ras_cons (re_v (i := 2) (a := (j : Nat)) rfl) ras_nil)) (re_call3 (re_v (i := 0) (a := (q : Nat)) rfl) (re_v (i := 4) (a := (apart_1 : Nat)) rfl) (re_v (i := 2) (a := (j : Nat)) rfl))) (re_tupL (ras_cons (re_v (i := 2) (a := (j : Nat)) rfl) ras_nil))))))))) (by rw [crsW_fn] at h; exact h)⟩
/-! ### teller -/
def telB (q : Nat) (hand : Nat) (j : Nat) (source : Nat) : M (Ctl Nat Unit Unit) :=
  (bindW (c2W (retW (hand : Nat)) (b2W (c4W (retW (q : Nat)) (retW (hand : Nat)) (retW (j : Nat)) (retW (source : Nat)) fun A_1 A_2 A_3 A_4 => pureW (crsW A_1 A_2 A_3 A_4)) (mapW (fun z : Int => -z) (retW (1 : Int))) fun (xs : (List Nat)) (i : Int) n P => ∃ a, atI xs i = some a ∧ P a n) fun A_1 A_2 => pureW (acrW A_1 A_2)) fun r => retW (.ret r))
theorem telW_ex : ∃ g : Nat → Nat → Nat → Nat → M Nat, ∀ q hand j source, g q hand j source = outW (telB q hand j source) := ⟨fun q hand j source => outW (telB q hand j source), fun _ _ _ _ => rfl⟩
/-- sealed -/
def telW : Nat → Nat → Nat → Nat → M Nat := Classical.choose telW_ex
theorem telW_eq (q : Nat) (hand : Nat) (j : Nat) (source : Nat) : telW q hand j source = outW (telB q hand j source) := Classical.choose_spec telW_ex q hand j source
theorem telW_fn : telW = fun q hand j source => outW (telB q hand j source) := funext fun q => funext fun hand => funext fun j => funext fun source => telW_eq q hand j source
theorem scTel : FnScope ["q", "hand", "j", "source"] ["q", "hand", "j", "source"] (defScope sTel) := ⟨rfl, rfl, rfl, by decide +kernel, rfl, by decide +kernel, by decide +kernel⟩
theorem ok_tel {f_acr f_crs : Addr} {d_acr d_crs : FuncData} (F : FunS K "teller" sTel f fd) (b : Bls mg) (c_acr : CalF P w K mg base 1 "across" f_acr d_acr ["hand", "k"] (spW2 K T acrW)) (c_crs : CalS P w K mg base 6 "crossed" f_crs d_crs ["q", "hand", "j", "source"] (spW4 K T crsW)) (q_crs_3_0123 : KBinds K d_crs ["q", "hand", "j", "source"] ["source"] (gN 3 [0, 1, 2, 3]) (gN 3 [0, 1, 2, 3])) : FnOk P w K mg base CX0 7 f fd ["q", "hand", "j", "source"] (spW4 K T telW) := by
  refine F.go scTel (fun vs H Q E h => ?_) (fun cdv A outer s H vs Q E hr h => ?_)
  · exact spW4_len h
  · refine ⟨_, (pss_cons (ps_ret (pe_call c_acr.G (hr.mono (by decide)) (by rfl) c_acr.g c_acr.kp c_acr.b .nil pass0 (pa_cons (pv 1) (pa_cons (pe_ix ix_tup (pe_callK c_crs.G (hr.mono (by decide)) (by rfl) c_crs.g c_crs.kp q_crs_3_0123 pass0 (pa_cons (pv 0) (pa_cons (pv 1) (pa_cons (pv 2) pa_nil))) (pk_cons (pv 3) pk_nil)) (pe_un un_neg pe_int) (fun _ _ => rfl)) pa_nil))))
      pss_nil), w4_run (N := ["q", "hand", "j", "source"]) psl_own psl_own psl_own psl_own (mB := telB) (ρ := fun (q : Nat) (hand : Nat) (j : Nat) (source : Nat) => [.own (enc (q : Nat)), .own (enc (hand : Nat)), .own (enc (j : Nat)), .own (enc (source : Nat))]) (ρn := fun _ => []) (ρb := fun _ => []) (C := fun _ => True) (fun _ _ _ _ => rfl) trivial (fun (q : Nat) (hand : Nat) (j : Nat) (source : Nat) => 
  (rb_ret (re_call2 (re_v (i := 1) (a := (hand : Nat)) rfl) (re_op ow_ixT (rk_crs_3_0123 (re_v (i := 0) (a := (q : Nat)) rfl) (re_v (i := 1) (a := (hand : Nat)) rfl) (re_v (i := 2) (a := (j : Nat)) rfl) (re_v (i := 3) (a := (source : Nat)) rfl)) (re_neg (re_int 1)))))) (by rw [telW_fn] at h; exact h)⟩
/-! ### _law_field -/
def fiB (wide : Nat) : M (Ctl Nat Unit Unit) :=
  (bindW (bindW (b2W (retW (2 : Nat)) (b2W (retW (3 : Nat)) (b2W (retW (5 : Nat)) (b2W (retW (7 : Nat)) (b2W (retW (11 : Nat)) (b2W (retW (13 : Nat)) (b2W (retW (31 : Nat)) (b2W (retW (61 : Nat)) (b2W (retW (67 : Nat)) (b2W (retW (101 : Nat)) (b2W (retW (997 : Nat)) (b2W (retW (65537 : Nat)) (b2W (retW (999999893 : Nat)) (b2W (retW (999999937 : Nat)) (retW ([] : List Nat)) fun a as => retW (a :: as)) fun a as => retW (a :: as)) fun a as => retW (a :: as)) fun a as => retW (a :: as)) fun a as => retW (a :: as)) fun a as => retW (a :: as)) fun a as => retW (a :: as)) fun a as => retW (a :: as)) fun a as => retW (a :: as)) fun a as => retW (a :: as)) fun a as => retW (a :: as)) fun a as => retW (a :: as)) fun a as => retW (a :: as)) fun a as => retW (a :: as)) fun xs => reqW (xs.length ≤ sizeLine) (retW (⟨xs⟩ : Lst Nat))) fun (some_1 : (Lst Nat)) =>
  (bindW (c1W (bindW (retW (some_1 : (Lst Nat)).l) fun X_ => reqW (X_.length ≤ sizeLine) (lcW (fun (one_2 : Nat) => (b2W (retW (one_2 : Nat)) (retW (wide : Nat)) (fun a b : Nat => retW (decide (b < a))))) (fun (one_2 : Nat) => (retW (one_2 : Nat))) X_ [])) fun A_1 => ofW A_1) fun r => retW (.ret r)))
theorem fiW_ex : ∃ g : Nat → M Nat, ∀ wide, g wide = outW (fiB wide) := ⟨fun wide => outW (fiB wide), fun _ => rfl⟩
/-- sealed -/
def fiW : Nat → M Nat := Classical.choose fiW_ex
theorem fiW_eq (wide : Nat) : fiW wide = outW (fiB wide) := Classical.choose_spec fiW_ex wide
theorem fiW_fn : fiW = fun wide => outW (fiB wide) := funext fun wide => fiW_eq wide
theorem scFi : FnScope ["_law_pot", "_law_wide", "_law_some", "_law_one"] ["_law_pot", "_law_wide"] (defScope sFi) := ⟨rfl, rfl, rfl, by decide +kernel, rfl, by decide +kernel, by decide +kernel⟩
theorem ok_fi {f_of : Addr} {d_of : FuncData} (F : Fun K "_law_field" "_law_field" sFi f fd) (b : Bls mg) (c_of : ∀ {α : Type} [Enc α] [Pu α], CalF P w K mg base 2 "_law_of" f_of d_of ["_law_pot", "_law_some"] (spP1 K T (ofW (α := α)))) : FnOk P w K mg base CX0 3 f fd ["_law_pot", "_law_wide"] (spP1 K T fiW) := by
  refine F.ok scFi (fun vs H Q E h => ?_) (fun cdv A outer s H vs Q E hr h => ?_)
  · exact spP1_len h
  · refine ⟨_, (pss_cons (ps_set (i := 2) scFi.nd rfl (.inl rfl) (pe_lst (pa_cons pe_int (pa_cons pe_int (pa_cons pe_int (pa_cons pe_int (pa_cons pe_int (pa_cons pe_int (pa_cons pe_int (pa_cons pe_int (pa_cons pe_int (pa_cons pe_int (pa_cons pe_int (pa_cons pe_int (pa_cons pe_int (pa_cons pe_int pa_nil))))))))))))))))
      (pss_cons (ps_ret (pe_call (c_of (α := Nat)).G (hr.mono (by decide)) (by rfl) (c_of (α := Nat)).g (c_of (α := Nat)).kp (c_of (α := Nat)).b .nil pass0 (pa_cons (pv 0) (pa_cons (pe_lc (own := [("_law_one", 3)]) (g := (gName 3)) (tt := (tTest (tOp _ (tVar 3) (tVar 1)))) (te := (tVar 3)) (by rfl) scFi.nd (pi_list (pv 2)) (blkOk_by (own := [("_law_one", 3)]) (N := ["_law_pot", "_law_wide", "_law_some", "_law_one"]) (sc := defScope sFi) (by decide +kernel)) (fun _ _ _ _ _ => (pg_name (i := 3) scFi.nd rfl (Or.inl rfl))) (fun _ _ _ _ _ => (pts_one (pt_cmpR op_gt (pv 3) (pv 1) (nomark _)))) (fun _ _ _ _ _ => (pv 3))) pa_nil))))
      pss_nil)), p1_run (N := ["_law_pot", "_law_wide", "_law_some", "_law_one"]) psl_own (mB := fiB) (ρ := fun (wide : Nat) => [.pot, .own (enc (wide : Nat)), .any, .any]) (ρn := fun _ => []) (ρb := fun _ => []) (C := fun _ => True) (fun _ => rfl) (fun _ => trivial) (fun (wide : Nat) => 
  (rb_asg (ρ2 := fun (some_1 : (Lst Nat)) => [.pot, .own (enc (wide : Nat)), .own (enc (some_1 : (Lst Nat))), .any]) (re_lst (ras_cons (re_nat 2) (ras_cons (re_nat 3) (ras_cons (re_nat 5) (ras_cons (re_nat 7) (ras_cons (re_nat 11) (ras_cons (re_nat 13) (ras_cons (re_nat 31) (ras_cons (re_nat 61) (ras_cons (re_nat 67) (ras_cons (re_nat 101) (ras_cons (re_nat 997) (ras_cons (re_nat 65537) (ras_cons (re_nat 999999893) (ras_cons (re_nat 999999937) ras_nil))))))))))))))) (fun (some_1 : (Lst Nat)) => rg_name (i := 2) (show 2 < 4 by decide) rfl) (fun (some_1 : (Lst Nat)) =>
  (rb_freeze (i := 2) (ρ2 := [.pot, .own (enc (wide : Nat)), .bor (enc (some_1 : (Lst Nat))), .any]) rfl rfl (rb_ret (re_callp1 (ip := 0) rfl (re_lc (vs := [3]) (ρw := [.pot, .own (enc (wide : Nat)), .bor (enc (some_1 : (Lst Nat))), .any]) (ρx := fun (one_2 : Nat) => [.pot, .own (enc (wide : Nat)), .bor (enc (some_1 : (Lst Nat))), .own (enc (one_2 : Nat))]) rfl (ri_bor (i := 2) (xs := (some_1 : (Lst Nat))) rfl) (by decide) (fun (one_2 : Nat) => (rg_name (i := 3) (ρ' := [.pot, .own (enc (wide : Nat)), .bor (enc (some_1 : (Lst Nat))), .own (enc (one_2 : Nat))]) (show 3 < 4 by decide) rfl)) (fun (one_2 : Nat) => (rt_test (re_op ow_gtN (re_v (i := 3) (a := (one_2 : Nat)) rfl) (re_v (i := 1) (a := (wide : Nat)) rfl)))) (fun (one_2 : Nat) => (re_v (i := 3) (a := (one_2 : Nat)) rfl))))))))) (by rw [fiW_fn] at h; exact h)⟩
/-! ### _law_numbers -/
def nuB (prime : Nat) (size : Nat) : M (Ctl (List Nat) Unit Unit) :=
  (bindW (bindW (bindW (bindW (retW (size : Nat)) fun k => reqW (k < 4611686018427387904) (retW (List.range k))) fun X_ => reqW (X_.length ≤ sizeLine) (lcW (fun (turn_1 : Nat) => (retW true)) (fun (turn_1 : Nat) => (c1W (bindW (b2W (retW (0 : Nat)) (b2W (retW (1 : Nat)) (b2W (b2W (retW (prime : Nat)) (retW (1 : Nat)) (fun a b : Nat => reqW (b ≤ a) (retW (a - b)))) (b2W (c1W (retW (prime : Nat)) fun A_1 => takeW A_1) (retW ([] : List Nat)) fun a as => retW (a :: as)) fun a as => retW (a :: as)) fun a as => retW (a :: as)) fun a as => retW (a :: as)) fun xs => reqW (xs.length ≤ sizeLine) (retW (⟨xs⟩ : Lst Nat))) fun A_1 => ofW A_1)) X_ [])) fun xs : (Lst Nat) => retW xs.l) fun r => retW (.ret r))
theorem nuW_ex : ∃ g : Nat → Nat → M (List Nat), ∀ prime size, g prime size = outW (nuB prime size) := ⟨fun prime size => outW (nuB prime size), fun _ _ => rfl⟩
/-- sealed -/
def nuW : Nat → Nat → M (List Nat) := Classical.choose nuW_ex
theorem nuW_eq (prime : Nat) (size : Nat) : nuW prime size = outW (nuB prime size) := Classical.choose_spec nuW_ex prime size
theorem nuW_fn : nuW = fun prime size => outW (nuB prime size) := funext fun prime => funext fun size => nuW_eq prime size
theorem scNu : FnScope ["_law_pot", "_law_prime", "_law_size", "_law_turn"] ["_law_pot", "_law_prime", "_law_size"] (defScope sNu) := ⟨rfl, rfl, rfl, by decide +kernel, rfl, by decide +kernel, by decide +kernel⟩
theorem ok_nu {f_of f_take : Addr} {d_of d_take : FuncData} (F : Fun K "_law_numbers" "_law_numbers" sNu f fd) (b : Bls mg) (c_of : ∀ {α : Type} [Enc α] [Pu α], CalF P w K mg base 2 "_law_of" f_of d_of ["_law_pot", "_law_some"] (spP1 K T (ofW (α := α)))) (c_take : CalF P w K mg base 1 "_law_take" f_take d_take ["_law_pot", "_law_size"] (spP1 K T takeW)) : FnOk P w K mg base CX0 3 f fd ["_law_pot", "_law_prime", "_law_size"] (spP2 K T nuW) := by
  refine F.ok scNu (fun vs H Q E h => ?_) (fun cdv A outer s H vs Q E hr h => ?_)
  · exact spP2_len h
  · refine ⟨_, (pss_cons (ps_ret (pe_callTy call_tuple_of (by rfl) b.tuple (by decide +kernel) (pa_cons (pe_lc (own := [("_law_turn", 3)]) (g := (gName 3)) (tt := tYes) (te := (tCall (spP1 K T (ofW (α := Nat))) [] E0 (tCons (tVar 0) (tCons (tLst (tCons (tC (.int 0)) (tCons (tC (.int 1)) (tCons (tOp _ (tVar 1) (tC (.int 1))) (tCons (tCall (spP1 K T takeW) [] E0 (tCons (tVar 0) (tCons (tVar 1) tNil))) tNil))))) tNil)))) (by rfl) scNu.nd (pi_range1 (by rfl) b.range (pa_cons (pv 2) pa_nil)) (blkOk_by (own := [("_law_turn", 3)]) (N := ["_law_pot", "_law_prime", "_law_size", "_law_turn"]) (sc := defScope sNu) (by decide +kernel)) (fun _ _ _ _ _ => (pg_name (i := 3) scNu.nd rfl (Or.inl rfl))) (fun _ _ _ _ _ => pts_nil) (fun _ _ _ _ _ => (pe_call (c_of (α := Nat)).G (hr.mono (by decide)) (by rfl) (c_of (α := Nat)).g (c_of (α := Nat)).kp (c_of (α := Nat)).b .nil pass0 (pa_cons (pv 0) (pa_cons (pe_lst (pa_cons pe_int (pa_cons pe_int (pa_cons (pe_op op_subN (pv 1) pe_int) (pa_cons (pe_call c_take.G (hr.mono (by decide)) (by rfl) c_take.g c_take.kp c_take.b .nil pass0 (pa_cons (pv 0) (pa_cons (pv 1) pa_nil))) pa_nil))))) pa_nil))))) pa_nil)))
      pss_nil), p2_run (N := ["_law_pot", "_law_prime", "_law_size", "_law_turn"]) psl_own psl_own (mB := nuB) (ρ := fun (prime : Nat) (size : Nat) => [.pot, .own (enc (prime : Nat)), .own (enc (size : Nat)), .any]) (ρn := fun _ => []) (ρb := fun _ => []) (C := fun _ => True) (fun _ _ => rfl) (fun _ => trivial) (fun (prime : Nat) (size : Nat) => 
  (rb_ret (re_cb uw_tupL (re_lc (vs := [3]) (ρw := [.pot, .own (enc (prime : Nat)), .own (enc (size : Nat)), .any]) (ρx := fun (turn_1 : Nat) => [.pot, .own (enc (prime : Nat)), .own (enc (size : Nat)), .own (enc (turn_1 : Nat))]) rfl (ri_range (re_v (i := 2) (a := (size : Nat)) rfl)) (by decide) (fun (turn_1 : Nat) => (rg_name (i := 3) (ρ' := [.pot, .own (enc (prime : Nat)), .own (enc (size : Nat)), .own (enc (turn_1 : Nat))]) (show 3 < 4 by decide) rfl)) (fun (turn_1 : Nat) => rt_yes) (fun (turn_1 : Nat) => (re_callp1 (ip := 0) rfl (re_lst (ras_cons (re_nat 0) (ras_cons (re_nat 1) (ras_cons (re_op ow_subN (re_v (i := 1) (a := (prime : Nat)) rfl) (re_nat 1)) (ras_cons (re_callp1 (ip := 0) rfl (re_v (i := 1) (a := (prime : Nat)) rfl)) ras_nil))))))))))) (by rw [nuW_fn] at h; exact h)⟩
end
end Bf
namespace Bf
open PySem PySem.Spec PyProof.Rows L2 LamX NdefX
noncomputable section
variable {P : Program} {w : World} {K : PySem.W.Frag} {mg : Str → Option Value} {base : Heap} {f : Addr} {fd : FuncData} {k : Nat} {T : List (Addr × Str)}
/-! ### _law_origin -/
def oriB (wide : Nat) : M (Ctl Nat Unit Unit) :=
  (bindW (c1W (bindW (b2W (retW (0 : Nat)) (b2W (retW (0 : Nat)) (b2W (b2W (b2W (retW (1 : Nat)) (retW (wide : Nat)) (fun a b : Nat => reqW (a = 1 ∧ b ≤ 134217727) (retW (2 ^ b)))) (retW (1 : Nat)) (fun a b : Nat => reqW (b ≤ a) (retW (a - b)))) (b2W (c1W (b2W (retW (1 : Nat)) (retW (wide : Nat)) (fun a b : Nat => reqW (a = 1 ∧ b ≤ 134217727) (retW (2 ^ b)))) fun A_1 => takeW A_1) (retW ([] : List Nat)) fun a as => retW (a :: as)) fun a as => retW (a :: as)) fun a as => retW (a :: as)) fun a as => retW (a :: as)) fun xs => reqW (xs.length ≤ sizeLine) (retW (⟨xs⟩ : Lst Nat))) fun A_1 => ofW A_1) fun r => retW (.ret r))
theorem oriW_ex : ∃ g : Nat → M Nat, ∀ wide, g wide = outW (oriB wide) := ⟨fun wide => outW (oriB wide), fun _ => rfl⟩
/-- sealed -/
def oriW : Nat → M Nat := Classical.choose oriW_ex
theorem oriW_eq (wide : Nat) : oriW wide = outW (oriB wide) := Classical.choose_spec oriW_ex wide
theorem oriW_fn : oriW = fun wide => outW (oriB wide) := funext fun wide => oriW_eq wide
theorem scOri : FnScope ["_law_pot", "_law_wide"] ["_law_pot", "_law_wide"] (defScope sOri) := ⟨rfl, rfl, rfl, by decide +kernel, rfl, by decide +kernel, by decide +kernel⟩
theorem ok_ori {f_of f_take : Addr} {d_of d_take : FuncData} (F : Fun K "_law_origin" "_law_origin" sOri f fd) (b : Bls mg) (c_of : ∀ {α : Type} [Enc α] [Pu α], CalF P w K mg base 2 "_law_of" f_of d_of ["_law_pot", "_law_some"] (spP1 K T (ofW (α := α)))) (c_take : CalF P w K mg base 1 "_law_take" f_take d_take ["_law_pot", "_law_size"] (spP1 K T takeW)) : FnOk P w K mg base CX0 3 f fd ["_law_pot", "_law_wide"] (spP1 K T oriW) := by
  refine F.ok scOri (fun vs H Q E h => ?_) (fun cdv A outer s H vs Q E hr h => ?_)
  · exact spP1_len h
  · refine ⟨_, (pss_cons (ps_ret (pe_call (c_of (α := Nat)).G (hr.mono (by decide)) (by rfl) (c_of (α := Nat)).g (c_of (α := Nat)).kp (c_of (α := Nat)).b .nil pass0 (pa_cons (pv 0) (pa_cons (pe_lst (pa_cons pe_int (pa_cons pe_int (pa_cons (pe_op op_subN (pe_op op_bit pe_int (pv 1)) pe_int) (pa_cons (pe_call c_take.G (hr.mono (by decide)) (by rfl) c_take.g c_take.kp c_take.b .nil pass0 (pa_cons (pv 0) (pa_cons (pe_op op_bit pe_int (pv 1)) pa_nil))) pa_nil))))) pa_nil))))
      pss_nil), p1_run (N := ["_law_pot", "_law_wide"]) psl_own (mB := oriB) (ρ := fun (wide : Nat) => [.pot, .own (enc (wide : Nat))]) (ρn := fun _ => []) (ρb := fun _ => []) (C := fun _ => True) (fun _ => rfl) (fun _ => trivial) (fun (wide : Nat) => 
  (rb_ret (re_callp1 (ip := 0) rfl (re_lst (ras_cons (re_nat 0) (ras_cons (re_nat 0) (ras_cons (re_op ow_subN (re_op ow_bit (re_nat 1) (re_v (i := 1) (a := (wide : Nat)) rfl)) (re_nat 1)) (ras_cons (re_callp1 (ip := 0) rfl (re_op ow_bit (re_nat 1) (re_v (i := 1) (a := (wide : Nat)) rfl))) ras_nil)))))))) (by rw [oriW_fn] at h; exact h)⟩
/-! ### _law_lots -/
def lotB (some_ : (Lst Nat)) (size : Nat) : M (Ctl (Lst (List Nat)) Unit Unit) :=
  (bindW (bindW (b2W (bindW (retW ([] : (List Nat))) fun xs => reqW (xs.length ≤ sizeLine) (retW xs)) (retW ([] : List (List Nat))) fun a as => retW (a :: as)) fun xs => reqW (xs.length ≤ sizeLine) (retW (⟨xs⟩ : Lst (List Nat)))) fun (found_1 : (Lst (List Nat))) =>
  (bindW (retW (some_ : (Lst Nat)).l) fun X_ => seqW (forW (fun (one_3 : Nat) (s_2 : (Lst (List Nat))) =>
  (bindW (b2W (retW (s_2 : (Lst (List Nat)))) (bindW (retW (s_2 : (Lst (List Nat))).l) fun X_ => reqW (X_.length ≤ sizeLine) (lcW (fun (few_4 : (List Nat)) => (b2W (bindW (retW (few_4 : (List Nat))) fun xs : (List Nat) => retW xs.length) (retW (size : Nat)) (fun a b : Nat => retW (decide (a < b))))) (fun (few_4 : (List Nat)) => (b2W (retW (few_4 : (List Nat))) (bindW (b2W (retW (one_3 : Nat)) (retW ([] : List Nat)) fun a as => retW (a :: as)) fun xs => reqW (xs.length ≤ sizeLine) (retW xs)) (fun xs ys : List Nat => reqW (xs.length + ys.length ≤ sizeLine) (retW (xs ++ ys))))) X_ [])) (fun xs ys : Lst (List Nat) => reqW (xs.l.length + ys.l.length ≤ sizeLine) (retW (⟨xs.l ++ ys.l⟩ : Lst (List Nat))))) fun (found_5 : (Lst (List Nat))) =>
  (retW (.nxt (found_5 : (Lst (List Nat))))))) X_ (found_1 : (Lst (List Nat)))) fun (s_2 : (Lst (List Nat))) =>
  (bindW (bindW (retW (s_2 : (Lst (List Nat))).l) fun X_ => reqW (X_.length ≤ sizeLine) (lcW (fun (few_6 : (List Nat)) => (b2W (bindW (retW (few_6 : (List Nat))) fun xs : (List Nat) => retW xs.length) (retW (size : Nat)) (fun a b : Nat => retW (decide (a = b))))) (fun (few_6 : (List Nat)) => (retW (few_6 : (List Nat)))) X_ [])) fun r => retW (.ret r))))
theorem lotW_ex : ∃ g : (Lst Nat) → Nat → M (Lst (List Nat)), ∀ some_ size, g some_ size = outW (lotB some_ size) := ⟨fun some_ size => outW (lotB some_ size), fun _ _ => rfl⟩
/-- sealed -/
def lotW : (Lst Nat) → Nat → M (Lst (List Nat)) := Classical.choose lotW_ex
theorem lotW_eq (some_ : (Lst Nat)) (size : Nat) : lotW some_ size = outW (lotB some_ size) := Classical.choose_spec lotW_ex some_ size
theorem lotW_fn : lotW = fun some_ size => outW (lotB some_ size) := funext fun some_ => funext fun size => lotW_eq some_ size
theorem scLot : FnScope ["_law_some", "_law_size", "_law_found", "_law_one", "_law_few"] ["_law_some", "_law_size"] (defScope sLot) := ⟨rfl, rfl, rfl, by decide +kernel, rfl, by decide +kernel, by decide +kernel⟩
theorem ok_lot (F : Fun K "_law_lots" "_law_lots" sLot f fd) (b : Bls mg) : FnOk P w K mg base CX0 1 f fd ["_law_some", "_law_size"] (spW2 K T lotW) := by
  refine F.ok scLot (fun vs H Q E h => ?_) (fun cdv A outer s H vs Q E hr h => ?_)
  · exact spW2_len h
  · refine ⟨_, (pss_cons (ps_set (i := 2) scLot.nd rfl (.inl rfl) (pe_lst (pa_cons (pe_tup pa_nil) pa_nil)))
      (pss_cons (ps_for PassesOwn.never rfl (pi_list (pv 0)) (pg_name (i := 3) scLot.nd rfl (Or.inr rfl))
      (pss_cons (ps_set (i := 2) scLot.nd rfl (.inl rfl) (pe_op op_cat (pv 2) (pe_lc (own := [("_law_few", 4)]) (g := (gName 4)) (tt := (tTest (tOp _ (tCB (rLenOf K) (tCons (tVar 4) tNil)) (tVar 1)))) (te := (tOp (rCatA K) (tVar 4) (tTup (tCons (tVar 3) tNil)))) (by rfl) scLot.nd (pi_list (pv 2)) (blkOk_by (own := [("_law_few", 4)]) (N := ["_law_some", "_law_size", "_law_found", "_law_one", "_law_few"]) (sc := defScope sLot) (by decide +kernel)) (fun _ _ _ _ _ => (pg_name (i := 4) scLot.nd rfl (Or.inl rfl))) (fun _ _ _ _ _ => (pts_one (pt_cmpR op_lt (pe_callB call_len_seq (by rfl) b.len PySem.boot_len (pa_cons (pv 4) pa_nil)) (pv 1) (nomark _)))) (fun _ _ _ _ _ => (pe_op op_catA (pv 4) (pe_tup (pa_cons (pv 3) pa_nil)))))))
      pss_nil))
      (pss_cons (ps_ret (pe_lc (own := [("_law_few", 4)]) (g := (gName 4)) (tt := (tTest (tOp _ (tCB (rLenOf K) (tCons (tVar 4) tNil)) (tVar 1)))) (te := (tVar 4)) (by rfl) scLot.nd (pi_list (pv 2)) (blkOk_by (own := [("_law_few", 4)]) (N := ["_law_some", "_law_size", "_law_found", "_law_one", "_law_few"]) (sc := defScope sLot) (by decide +kernel)) (fun _ _ _ _ _ => (pg_name (i := 4) scLot.nd rfl (Or.inl rfl))) (fun _ _ _ _ _ => (pts_one (pt_cmpR op_eq (pe_callB call_len_seq (by rfl) b.len PySem.boot_len (pa_cons (pv 4) pa_nil)) (pv 1) (nomark _)))) (fun _ _ _ _ _ => (pv 4))))
      pss_nil))), w2_run (N := ["_law_some", "_law_size", "_law_found", "_law_one", "_law_few"]) psl_bor psl_own (mB := lotB) (ρ := fun (some_ : (Lst Nat)) (size : Nat) => [.bor (enc (some_ : (Lst Nat))), .own (enc (size : Nat)), .any, .any, .any]) (ρn := fun _ => []) (ρb := fun _ => []) (C := fun _ => True) (fun _ _ => rfl) trivial (fun (some_ : (Lst Nat)) (size : Nat) => 
  (rb_asg (ρ2 := fun (found_1 : (Lst (List Nat))) => [.bor (enc (some_ : (Lst Nat))), .own (enc (size : Nat)), .own (enc (found_1 : (Lst (List Nat)))), .any, .any]) (re_lst (ras_cons (re_tupL (α := Nat) ras_nil) ras_nil)) (fun (found_1 : (Lst (List Nat))) => rg_name (i := 2) (show 2 < 5 by decide) rfl) (fun (found_1 : (Lst (List Nat))) =>
  (rb_for (s0 := (found_1 : (Lst (List Nat)))) (ρl := fun (s_2 : (Lst (List Nat))) => [.bor (enc (some_ : (Lst Nat))), .own (enc (size : Nat)), .own (enc (s_2 : (Lst (List Nat)))), .any, .any]) (ρx := fun (one_3 : Nat) (s_2 : (Lst (List Nat))) => [.bor (enc (some_ : (Lst Nat))), .own (enc (size : Nat)), .own (enc (s_2 : (Lst (List Nat)))), .own (enc (one_3 : Nat)), .any]) (ri_bor (i := 0) (xs := (some_ : (Lst Nat))) rfl) ⟨.eq _, ⟨.eq _, ⟨.eq _, ⟨.any _, ⟨.any _, trivial⟩⟩⟩⟩⟩ (fun (one_3 : Nat) (s_2 : (Lst (List Nat))) => (rg_name (i := 3) (ρ' := [.bor (enc (some_ : (Lst Nat))), .own (enc (size : Nat)), .own (enc (s_2 : (Lst (List Nat)))), .own (enc (one_3 : Nat)), .any]) (show 3 < 5 by decide) rfl)) (fun (one_3 : Nat) (s_2 : (Lst (List Nat))) =>
  (rb_asg (ρ2 := fun (found_5 : (Lst (List Nat))) => [.bor (enc (some_ : (Lst Nat))), .own (enc (size : Nat)), .own (enc (found_5 : (Lst (List Nat)))), .own (enc (one_3 : Nat)), .any]) (re_op ow_catL (re_own (i := 2) (a := (s_2 : (Lst (List Nat)))) rfl) (re_frz (i := 2) (ρ2 := [.bor (enc (some_ : (Lst Nat))), .own (enc (size : Nat)), .bor (enc (s_2 : (Lst (List Nat)))), .own (enc (one_3 : Nat)), .any]) rfl rfl (re_lc (vs := [4]) (ρw := [.bor (enc (some_ : (Lst Nat))), .own (enc (size : Nat)), .bor (enc (s_2 : (Lst (List Nat)))), .own (enc (one_3 : Nat)), .any]) (ρx := fun (few_4 : (List Nat)) => [.bor (enc (some_ : (Lst Nat))), .own (enc (size : Nat)), .bor (enc (s_2 : (Lst (List Nat)))), .own (enc (one_3 : Nat)), .own (enc (few_4 : (List Nat)))]) rfl (ri_bor (i := 2) (xs := (s_2 : (Lst (List Nat)))) rfl) (by decide) (fun (few_4 : (List Nat)) => (rg_name (i := 4) (ρ' := [.bor (enc (some_ : (Lst Nat))), .own (enc (size : Nat)), .bor (enc (s_2 : (Lst (List Nat)))), .own (enc (one_3 : Nat)), .own (enc (few_4 : (List Nat)))]) (show 4 < 5 by decide) rfl)) (fun (few_4 : (List Nat)) => (rt_test (re_op ow_ltN (re_cb uw_lenT (re_v (i := 4) (a := (few_4 : (List Nat))) rfl)) (re_v (i := 1) (a := (size : Nat)) rfl)))) (fun (few_4 : (List Nat)) => (re_op ow_cat (re_v (i := 4) (a := (few_4 : (List Nat))) rfl) (re_tupL (ras_cons (re_v (i := 3) (a := (one_3 : Nat)) rfl) ras_nil))))))) (fun (found_5 : (Lst (List Nat))) => rg_name (i := 2) (show 2 < 5 by decide) rfl) (fun (found_5 : (Lst (List Nat))) =>
  (rb_end (s := (found_5 : (Lst (List Nat)))) ⟨.eq _, ⟨.eq _, ⟨.eq _, ⟨.any _, ⟨.any _, trivial⟩⟩⟩⟩⟩)))) (fun (s_2 : (Lst (List Nat))) =>
  (rb_freeze (i := 2) (ρ2 := [.bor (enc (some_ : (Lst Nat))), .own (enc (size : Nat)), .bor (enc (s_2 : (Lst (List Nat)))), .any, .any]) rfl rfl (rb_ret (re_lc (vs := [4]) (ρw := [.bor (enc (some_ : (Lst Nat))), .own (enc (size : Nat)), .bor (enc (s_2 : (Lst (List Nat)))), .any, .any]) (ρx := fun (few_6 : (List Nat)) => [.bor (enc (some_ : (Lst Nat))), .own (enc (size : Nat)), .bor (enc (s_2 : (Lst (List Nat)))), .any, .own (enc (few_6 : (List Nat)))]) rfl (ri_bor (i := 2) (xs := (s_2 : (Lst (List Nat)))) rfl) (by decide) (fun (few_6 : (List Nat)) => (rg_name (i := 4) (ρ' := [.bor (enc (some_ : (Lst Nat))), .own (enc (size : Nat)), .bor (enc (s_2 : (Lst (List Nat)))), .any, .own (enc (few_6 : (List Nat)))]) (show 4 < 5 by decide) rfl)) (fun (few_6 : (List Nat)) => (rt_test (re_op ow_eqN (re_cb uw_lenT (re_v (i := 4) (a := (few_6 : (List Nat))) rfl)) (re_v (i := 1) (a := (size : Nat)) rfl)))) (fun (few_6 : (List Nat)) => (re_v (i := 4) (a := (few_6 : (List Nat))) rfl)))))))))) (by rw [lotW_fn] at h; exact h)⟩
/-! ### _law_lot_right -/
def lriB (prime : Nat) (wide : Nat) (shut : (List Nat)) (line_ : (List Nat)) (home : Nat) : M (Ctl Bool Unit Unit) :=
  (bindW (c3W (retW (prime : Nat)) (retW (wide : Nat)) (b2W (bindW (b2W (retW (line_ : (List Nat))) (retW ([] : List (List Nat))) fun a as => retW (a :: as)) fun xs => reqW (xs.length ≤ sizeLine) (retW xs)) (mapW (fun n : Nat => (n : Int)) (bindW (b2W (retW (line_ : (List Nat))) (bindW (retW ([] : (List Nat))) fun xs => reqW (xs.length ≤ sizeLine) (retW xs)) (fun (a : (List Nat)) (b : (List Nat)) => reqW (shapeOk (enc a) ∧ shapeOk (enc b)) (retW (!PyData.eqv (enc a) (enc b))))) fun b : Bool => retW (if b then 1 else 0 : Nat))) (fun (xs : List (List Nat)) (k : Int) => reqW (xs ≠ [] ∧ -1000 ≤ k ∧ k ≤ 1000 ∧ xs.length ≤ 1000) (retW (List.replicate k.toNat xs).flatten))) fun A_1 A_2 A_3 => pureW (letW A_1 A_2 A_3)) fun (worths_1 : (List Nat)) =>
  (bindW (bindW (b2W (retW (1 : Nat)) (retW (wide : Nat)) (fun a b : Nat => reqW (a = 1 ∧ b ≤ 134217727) (retW (2 ^ b)))) fun k => reqW (k < 4611686018427387904) (retW (List.range k))) fun X_ => seqW (forW (fun (one_3 : Nat) (s_2 : Unit) =>
  (bindW (andW (b2W (retW (one_3 : Nat)) (retW (home : Nat)) (fun a b : Nat => retW (!decide (a = b)))) (b2W (retW (one_3 : Nat)) (retW (shut : (List Nat))) (fun (x : Nat) (xs : (List Nat)) => retW (!decide (x ∈ xs))))) fun B_ => seqW (if B_ = true then (bindW (c4W (retW (wide : Nat)) (retW (one_3 : Nat)) (retW (shut : (List Nat))) (retW (home : Nat)) fun A_1 A_2 A_3 A_4 => pureW (camW A_1 A_2 A_3 A_4)) fun (trees_5 : (List Nat)) =>
  (bindW (b2W (bindW (retW (trees_5 : (List Nat))) fun xs : (List Nat) => retW xs.length) (b2W (retW (wide : Nat)) (bindW (retW (shut : (List Nat))) fun xs : (List Nat) => retW xs.length) (fun a b : Nat => reqW (b ≤ a) (retW (a - b)))) (fun a b : Nat => retW (decide (a < b)))) fun B_ => seqW (if B_ = true then (bindW (retW false) fun r => retW (.ret r)) else (retW (.nxt (() : Unit)))) fun (s_6 : Unit) =>
  (bindW (bindW (bindW (retW (trees_5 : (List Nat))) fun X_ => reqW (X_.length ≤ sizeLine) (lcW (fun (tree_7 : Nat) => (b2W (retW (line_ : (List Nat))) (bindW (retW ([] : (List Nat))) fun xs => reqW (xs.length ≤ sizeLine) (retW xs)) (fun (a : (List Nat)) (b : (List Nat)) => reqW (shapeOk (enc a) ∧ shapeOk (enc b)) (retW (!PyData.eqv (enc a) (enc b)))))) (fun (tree_7 : Nat) => (b2W (b2W (retW (tree_7 : Nat)) (retW (1 : Nat)) (fun a b : Nat => retW (a + b))) (b2W (retW (worths_1 : (List Nat))) (retW (tree_7 : Nat)) fun (xs : (List Nat)) (i : Nat) n P => ∃ a, xs[i]? = some a ∧ P a n) fun a b => retW (a, b))) X_ [])) fun xs : (Lst (Nat × Nat)) => retW xs.l) fun (dots_8 : (List (Nat × Nat))) =>
  (bindW (andW (b2W (retW (line_ : (List Nat))) (bindW (retW ([] : (List Nat))) fun xs => reqW (xs.length ≤ sizeLine) (retW xs)) (fun (a : (List Nat)) (b : (List Nat)) => reqW (shapeOk (enc a) ∧ shapeOk (enc b)) (retW (!PyData.eqv (enc a) (enc b))))) (b2W (c3W (retW (prime : Nat)) (bindW (retW (line_ : (List Nat))) fun xs : (List Nat) => retW xs.length) (retW (dots_8 : (List (Nat × Nat)))) fun A_1 A_2 A_3 => pureW (rtW A_1 A_2 A_3)) (mapW some (retW (line_ : (List Nat)))) (fun (a : (Option (List Nat))) (b : (Option (List Nat))) => reqW (shapeOk (enc a) ∧ shapeOk (enc b)) (retW (!PyData.eqv (enc a) (enc b)))))) fun B_ => seqW (if B_ = true then (bindW (retW false) fun r => retW (.ret r)) else (retW (.nxt (() : Unit)))) fun (s_9 : Unit) =>
  (retW (.nxt (() : Unit))))))) else (retW (.nxt (() : Unit)))) fun (s_4 : Unit) =>
  (retW (.nxt (() : Unit))))) X_ (() : Unit)) fun (s_2 : Unit) =>
  (bindW (retW true) fun r => retW (.ret r))))
theorem lriW_ex : ∃ g : Nat → Nat → (List Nat) → (List Nat) → Nat → M Bool, ∀ prime wide shut line_ home, g prime wide shut line_ home = outW (lriB prime wide shut line_ home) := ⟨fun prime wide shut line_ home => outW (lriB prime wide shut line_ home), fun _ _ _ _ _ => rfl⟩
/-- sealed -/
def lriW : Nat → Nat → (List Nat) → (List Nat) → Nat → M Bool := Classical.choose lriW_ex
theorem lriW_eq (prime : Nat) (wide : Nat) (shut : (List Nat)) (line_ : (List Nat)) (home : Nat) : lriW prime wide shut line_ home = outW (lriB prime wide shut line_ home) := Classical.choose_spec lriW_ex prime wide shut line_ home
theorem lriW_fn : lriW = fun prime wide shut line_ home => outW (lriB prime wide shut line_ home) := funext fun prime => funext fun wide => funext fun shut => funext fun line_ => funext fun home => lriW_eq prime wide shut line_ home
theorem scLri : FnScope ["_law_prime", "_law_wide", "_law_shut", "_law_line", "_law_home", "_law_worths", "_law_one", "_law_trees", "_law_dots", "_law_tree"] ["_law_prime", "_law_wide", "_law_shut", "_law_line", "_law_home"] (defScope sLri) := ⟨rfl, rfl, rfl, by decide +kernel, rfl, by decide +kernel, by decide +kernel⟩
theorem ok_lri {f_cam f_let f_rt : Addr} {d_cam d_let d_rt : FuncData} (F : Fun K "_law_lot_right" "_law_lot_right" sLri f fd) (b : Bls mg) (c_cam : CalS P w K mg base 5 "came" f_cam d_cam ["q", "hand", "lot", "source"] (spW4 K T camW)) (c_let : CalF P w K mg base 3 "letters" f_let d_let ["p", "q", "rows"] (spW3 K T letW)) (c_rt : CalF P w K mg base 4 "row_through" f_rt d_rt ["p", "k", "pairs"] (spW3 K T rtW)) (q_cam_3_0123 : KBinds K d_cam ["q", "hand", "lot", "source"] ["source"] (gN 3 [0, 1, 2, 3]) (gN 3 [0, 1, 2, 3])) : FnOk P w K mg base CX0 6 f fd ["_law_prime", "_law_wide", "_law_shut", "_law_line", "_law_home"] (spW5 K T lriW) := by
  refine F.ok scLri (fun vs H Q E h => ?_) (fun cdv A outer s H vs Q E hr h => ?_)
  · exact spW5_len h
  · refine ⟨_, (pss_cons (ps_set (i := 5) scLri.nd rfl (.inr rfl) (pe_call c_let.G (hr.mono (by decide)) (by rfl) c_let.g c_let.kp c_let.b .nil pass0 (pa_cons (pv 0) (pa_cons (pv 1) (pa_cons (pe_op op_repI (pe_tup (pa_cons (pv 3) pa_nil)) (pe_callTy call_int1 (by rfl) b.int (by decide +kernel) (pa_cons (pe_cmpR (op_neD hr.units) (pv 3) (pe_tup pa_nil) (nomark _)) pa_nil))) pa_nil)))))
      (pss_cons (ps_for PassesOwn.never rfl (pi_range1 (by rfl) b.range (pa_cons (pe_op op_bit pe_int (pv 1)) pa_nil)) (pg_name (i := 6) scLri.nd rfl (Or.inl rfl))
      (pss_cons (ps_if (PW.pt (pw_and (pt_cmpR op_ne (pv 6) (pv 4) (nomark _)) (pw_and1 (pt_cmpR op_notIn_seq (pv 6) (pv 2) (by rfl))))) (pss_cons (ps_set (i := 7) scLri.nd rfl (.inl rfl) (pe_callK c_cam.G (hr.mono (by decide)) (by rfl) c_cam.g c_cam.kp q_cam_3_0123 pass0 (pa_cons (pv 1) (pa_cons (pv 6) (pa_cons (pv 2) pa_nil))) (pk_cons (pv 4) pk_nil)))
      (pss_cons (ps_if (pt_cmpR op_lt (pe_callB call_len_seq (by rfl) b.len PySem.boot_len (pa_cons (pv 7) pa_nil)) (pe_op op_subN (pv 1) (pe_callB call_len_seq (by rfl) b.len PySem.boot_len (pa_cons (pv 2) pa_nil))) (nomark _)) (pss_cons (ps_ret pe_bl)
      pss_nil) pss_nil)
      (pss_cons (ps_set (i := 8) scLri.nd rfl (.inl rfl) (pe_callTy call_tuple_of (by rfl) b.tuple (by decide +kernel) (pa_cons (pe_lc (own := [("_law_tree", 9)]) (g := (gName 9)) (tt := (tTest (tOp (rNeD K) (tVar 3) (tTup tNil)))) (te := (tTup (tCons (tOp _ (tVar 9) (tC (.int 1))) (tCons (tOp (L2.rIxT K) (tVar 5) (tVar 9)) tNil)))) (by rfl) scLri.nd (pi_tup (pv 7)) (blkOk_by (own := [("_law_tree", 9)]) (N := ["_law_prime", "_law_wide", "_law_shut", "_law_line", "_law_home", "_law_worths", "_law_one", "_law_trees", "_law_dots", "_law_tree"]) (sc := defScope sLri) (by decide +kernel)) (fun _ _ _ _ _ => (pg_name (i := 9) scLri.nd rfl (Or.inl rfl))) (fun _ _ _ _ _ => (pts_one (pt_cmpR (op_neD hr.units) (pv 3) (pe_tup pa_nil) (nomark _)))) (fun _ _ _ _ _ => (pe_tup (pa_cons (pe_op op_addN (pv 9) pe_int) (pa_cons (pe_ix ix_tup (pv 5) (pv 9) (fun _ _ => rfl)) pa_nil))))) pa_nil)))
      (pss_cons (ps_if (PW.pt (pw_and (pt_cmpR (op_neD hr.units) (pv 3) (pe_tup pa_nil) (nomark _)) (pw_and1 (pt_cmpR (op_neD hr.units) (pe_call c_rt.G (hr.mono (by decide)) (by rfl) c_rt.g c_rt.kp c_rt.b .nil pass0 (pa_cons (pv 0) (pa_cons (pe_callB call_len_seq (by rfl) b.len PySem.boot_len (pa_cons (pv 3) pa_nil)) (pa_cons (pv 8) pa_nil)))) (pv 3) (nomark _))))) (pss_cons (ps_ret pe_bl)
      pss_nil) pss_nil)
      pss_nil)))) pss_nil)
      pss_nil))
      (pss_cons (ps_ret pe_bl)
      pss_nil))), w5_run (N := ["_law_prime", "_law_wide", "_law_shut", "_law_line", "_law_home", "_law_worths", "_law_one", "_law_trees", "_law_dots", "_law_tree"]) psl_own psl_own psl_own psl_own psl_own (mB := lriB) (ρ := fun (prime : Nat) (wide : Nat) (shut : (List Nat)) (line_ : (List Nat)) (home : Nat) => [.own (enc (prime : Nat)), .own (enc (wide : Nat)), .own (enc (shut : (List Nat))), .own (enc (line_ : (List Nat))), .own (enc (home : Nat)), .any, .any, .any, .any, .any]) (ρn := fun _ => []) (ρb := fun _ => []) (C := fun _ => True) (fun _ _ _ _ _ => rfl) trivial (fun (prime : Nat) (wide : Nat) (shut : (List Nat)) (line_ : (List Nat)) (home : Nat) => 
  (rb_asg (ρ2 := fun (worths_1 : (List Nat)) => [.own (enc (prime : Nat)), .own (enc (wide : Nat)), .own (enc (shut : (List Nat))), .own (enc (line_ : (List Nat))), .own (enc (home : Nat)), .own (enc (worths_1 : (List Nat))), .any, .any, .any, .any]) (re_call3 (re_v (i := 0) (a := (prime : Nat)) rfl) (re_v (i := 1) (a := (wide : Nat)) rfl) (re_op ow_repT (re_tupL (ras_cons (re_v (i := 3) (a := (line_ : (List Nat))) rfl) ras_nil)) (re_ofN (re_cb uw_intB (re_op ow_neD (re_v (i := 3) (a := (line_ : (List Nat))) rfl) (re_tupL (α := Nat) ras_nil)))))) (fun (worths_1 : (List Nat)) => rg_name (i := 5) (show 5 < 10 by decide) rfl) (fun (worths_1 : (List Nat)) =>
  (rb_for (s0 := (() : Unit)) (ρl := fun (s_2 : Unit) => [.own (enc (prime : Nat)), .own (enc (wide : Nat)), .own (enc (shut : (List Nat))), .own (enc (line_ : (List Nat))), .own (enc (home : Nat)), .own (enc (worths_1 : (List Nat))), .any, .any, .any, .any]) (ρx := fun (one_3 : Nat) (s_2 : Unit) => [.own (enc (prime : Nat)), .own (enc (wide : Nat)), .own (enc (shut : (List Nat))), .own (enc (line_ : (List Nat))), .own (enc (home : Nat)), .own (enc (worths_1 : (List Nat))), .own (enc (one_3 : Nat)), .any, .any, .any]) (ri_range (re_op ow_bit (re_nat 1) (re_v (i := 1) (a := (wide : Nat)) rfl))) ⟨.eq _, ⟨.eq _, ⟨.eq _, ⟨.eq _, ⟨.eq _, ⟨.eq _, ⟨.any _, ⟨.any _, ⟨.any _, ⟨.any _, trivial⟩⟩⟩⟩⟩⟩⟩⟩⟩⟩ (fun (one_3 : Nat) (s_2 : Unit) => (rg_name (i := 6) (ρ' := [.own (enc (prime : Nat)), .own (enc (wide : Nat)), .own (enc (shut : (List Nat))), .own (enc (line_ : (List Nat))), .own (enc (home : Nat)), .own (enc (worths_1 : (List Nat))), .own (enc (one_3 : Nat)), .any, .any, .any]) (show 6 < 10 by decide) rfl)) (fun (one_3 : Nat) (s_2 : Unit) =>
  (rb_if (ρ1 := fun (s_4 : Unit) => [.own (enc (prime : Nat)), .own (enc (wide : Nat)), .own (enc (shut : (List Nat))), .own (enc (line_ : (List Nat))), .own (enc (home : Nat)), .own (enc (worths_1 : (List Nat))), .own (enc (one_3 : Nat)), .any, .any, .any]) (rt_and (rt_test (re_op ow_neN (re_v (i := 6) (a := (one_3 : Nat)) rfl) (re_v (i := 4) (a := (home : Nat)) rfl))) (rt_test (re_op ow_ninT (re_v (i := 6) (a := (one_3 : Nat)) rfl) (re_v (i := 2) (a := (shut : (List Nat))) rfl))))
  (rb_asg (ρ2 := fun (trees_5 : (List Nat)) => [.own (enc (prime : Nat)), .own (enc (wide : Nat)), .own (enc (shut : (List Nat))), .own (enc (line_ : (List Nat))), .own (enc (home : Nat)), .own (enc (worths_1 : (List Nat))), .own (enc (one_3 : Nat)), .own (enc (trees_5 : (List Nat))), .any, .any]) (rk_cam_3_0123 (re_v (i := 1) (a := (wide : Nat)) rfl) (re_v (i := 6) (a := (one_3 : Nat)) rfl) (re_v (i := 2) (a := (shut : (List Nat))) rfl) (re_v (i := 4) (a := (home : Nat)) rfl)) (fun (trees_5 : (List Nat)) => rg_name (i := 7) (show 7 < 10 by decide) rfl) (fun (trees_5 : (List Nat)) =>
  (rb_if (ρ1 := fun (s_6 : Unit) => [.own (enc (prime : Nat)), .own (enc (wide : Nat)), .own (enc (shut : (List Nat))), .own (enc (line_ : (List Nat))), .own (enc (home : Nat)), .own (enc (worths_1 : (List Nat))), .own (enc (one_3 : Nat)), .own (enc (trees_5 : (List Nat))), .any, .any]) (rt_test (re_op ow_ltN (re_cb uw_lenT (re_v (i := 7) (a := (trees_5 : (List Nat))) rfl)) (re_op ow_subN (re_v (i := 1) (a := (wide : Nat)) rfl) (re_cb uw_lenT (re_v (i := 2) (a := (shut : (List Nat))) rfl)))))
  (rb_ret (re_bool false))
  (rb_end (s := (() : Unit)) ⟨.eq _, ⟨.eq _, ⟨.eq _, ⟨.eq _, ⟨.eq _, ⟨.eq _, ⟨.eq _, ⟨.eq _, ⟨.any _, ⟨.any _, trivial⟩⟩⟩⟩⟩⟩⟩⟩⟩⟩) (fun (s_6 : Unit) =>
  (rb_asg (ρ2 := fun (dots_8 : (List (Nat × Nat))) => [.own (enc (prime : Nat)), .own (enc (wide : Nat)), .own (enc (shut : (List Nat))), .own (enc (line_ : (List Nat))), .own (enc (home : Nat)), .own (enc (worths_1 : (List Nat))), .own (enc (one_3 : Nat)), .own (enc (trees_5 : (List Nat))), .own (enc (dots_8 : (List (Nat × Nat)))), .any]) (re_cb uw_tupL (re_lc (vs := [9]) (ρw := [.own (enc (prime : Nat)), .own (enc (wide : Nat)), .own (enc (shut : (List Nat))), .own (enc (line_ : (List Nat))), .own (enc (home : Nat)), .own (enc (worths_1 : (List Nat))), .own (enc (one_3 : Nat)), .own (enc (trees_5 : (List Nat))), .any, .any]) (ρx := fun (tree_7 : Nat) => [.own (enc (prime : Nat)), .own (enc (wide : Nat)), .own (enc (shut : (List Nat))), .own (enc (line_ : (List Nat))), .own (enc (home : Nat)), .own (enc (worths_1 : (List Nat))), .own (enc (one_3 : Nat)), .own (enc (trees_5 : (List Nat))), .any, .own (enc (tree_7 : Nat))]) rfl (ri_tup (re_v (i := 7) (a := (trees_5 : (List Nat))) rfl)) (by decide) (fun (tree_7 : Nat) => (rg_name (i := 9) (ρ' := [.own (enc (prime : Nat)), .own (enc (wide : Nat)), .own (enc (shut : (List Nat))), .own (enc (line_ : (List Nat))), .own (enc (home : Nat)), .own (enc (worths_1 : (List Nat))), .own (enc (one_3 : Nat)), .own (enc (trees_5 : (List Nat))), .any, .own (enc (tree_7 : Nat))]) (show 9 < 10 by decide) rfl)) (fun (tree_7 : Nat) => (rt_test (re_op ow_neD (re_v (i := 3) (a := (line_ : (List Nat))) rfl) (re_tupL (α := Nat) ras_nil)))) (fun (tree_7 : Nat) => (re_pair (re_op ow_addN (re_v (i := 9) (a := (tree_7 : Nat)) rfl) (re_nat 1)) (re_op ow_ixTN (re_v (i := 5) (a := (worths_1 : (List Nat))) rfl) (re_v (i := 9) (a := (tree_7 : Nat)) rfl)))))) (fun (dots_8 : (List (Nat × Nat))) => rg_name (i := 8) (show 8 < 10 by decide) rfl) (fun (dots_8 : (List (Nat × Nat))) =>
  (rb_if (ρ1 := fun (s_9 : Unit) => [.own (enc (prime : Nat)), .own (enc (wide : Nat)), .own (enc (shut : (List Nat))), .own (enc (line_ : (List Nat))), .own (enc (home : Nat)), .own (enc (worths_1 : (List Nat))), .own (enc (one_3 : Nat)), .own (enc (trees_5 : (List Nat))), .own (enc (dots_8 : (List (Nat × Nat)))), .any]) (rt_and (rt_test (re_op ow_neD (re_v (i := 3) (a := (line_ : (List Nat))) rfl) (re_tupL (α := Nat) ras_nil))) (rt_test (re_op ow_neD (re_call3 (re_v (i := 0) (a := (prime : Nat)) rfl) (re_cb uw_lenT (re_v (i := 3) (a := (line_ : (List Nat))) rfl)) (re_v (i := 8) (a := (dots_8 : (List (Nat × Nat)))) rfl)) (re_some (re_v (i := 3) (a := (line_ : (List Nat))) rfl)))))
  (rb_ret (re_bool false))
  (rb_end (s := (() : Unit)) ⟨.eq _, ⟨.eq _, ⟨.eq _, ⟨.eq _, ⟨.eq _, ⟨.eq _, ⟨.eq _, ⟨.eq _, ⟨.eq _, ⟨.any _, trivial⟩⟩⟩⟩⟩⟩⟩⟩⟩⟩) (fun (s_9 : Unit) =>
  (rb_end (s := (() : Unit)) ⟨.eq _, ⟨.eq _, ⟨.eq _, ⟨.eq _, ⟨.eq _, ⟨.eq _, ⟨.eq _, ⟨.any _, ⟨.any _, ⟨.any _, trivial⟩⟩⟩⟩⟩⟩⟩⟩⟩⟩)))))))))
  (rb_end (s := (() : Unit)) ⟨.eq _, ⟨.eq _, ⟨.eq _, ⟨.eq _, ⟨.eq _, ⟨.eq _, ⟨.eq _, ⟨.any _, ⟨.any _, ⟨.any _, trivial⟩⟩⟩⟩⟩⟩⟩⟩⟩⟩) (fun (s_4 : Unit) =>
  (rb_end (s := (() : Unit)) ⟨.eq _, ⟨.eq _, ⟨.eq _, ⟨.eq _, ⟨.eq _, ⟨.eq _, ⟨.any _, ⟨.any _, ⟨.any _, ⟨.any _, trivial⟩⟩⟩⟩⟩⟩⟩⟩⟩⟩)))) (fun (s_2 : Unit) =>
  (rb_ret (re_bool true))))))) (by rw [lriW_fn] at h; exact h)⟩
/-! ### _law_just_right -/
def jriB (wide : Nat) (one_ : Nat) (few : Nat) (home : Nat) : M (Ctl Bool Unit Unit) :=
  (bindW (bindW (bindW (retW (wide : Nat)) fun k => reqW (k < 4611686018427387904) (retW (List.range k))) fun X_ => reqW (X_.length ≤ sizeLine) (lcW (fun (tree_1 : Nat) => (retW true)) (fun (tree_1 : Nat) => (c4W (retW (wide : Nat)) (retW (one_ : Nat)) (retW (tree_1 : Nat)) (retW (home : Nat)) fun A_1 A_2 A_3 A_4 => pureW (telW A_1 A_2 A_3 A_4))) X_ [])) fun (tells_2 : (Lst Nat)) =>
  (bindW (mapW Lst.l (c2W (bindW (retW (wide : Nat)) fun k => reqW (k ≤ 16777216) (retW (⟨List.range k⟩ : Lst Nat))) (retW (few : Nat)) fun A_1 A_2 => pureW (lotW A_1 A_2))) fun X_ => seqW (forW (fun (trees_4 : (List Nat)) (s_3 : Unit) =>
  (bindW (bindW (retW (trees_4 : (List Nat))) fun X_ => reqW (X_.length ≤ sizeLine) (lcW (fun (tree_5 : Nat) => (retW true)) (fun (tree_5 : Nat) => (b2W (retW (tells_2 : (Lst Nat))) (retW (tree_5 : Nat)) fun (xs : (Lst Nat)) (i : Nat) n P => ∃ a, xs.l[i]? = some a ∧ P a n)) X_ [])) fun (some_6 : (Lst Nat)) =>
  (bindW (b2W (retW (home : Nat)) (retW (some_6 : (Lst Nat))) (fun (x : Nat) (xs : (Lst Nat)) => retW (!decide (x ∈ xs.l)))) fun B_ => seqW (if B_ = true then (bindW (bindW (bindW (bindW (retW (wide : Nat)) fun k => reqW (k < 4611686018427387904) (retW (List.range k))) fun X_ => reqW (X_.length ≤ sizeLine) (lcW (fun (tree_8 : Nat) => (b2W (retW (tree_8 : Nat)) (retW (trees_4 : (List Nat))) (fun (x : Nat) (xs : (List Nat)) => retW (!decide (x ∈ xs))))) (fun (tree_8 : Nat) => (retW (tree_8 : Nat))) X_ [])) fun xs : (Lst Nat) => retW xs.l) fun (rest_9 : (List Nat)) =>
  (bindW (b2W (c4W (retW (wide : Nat)) (retW (one_ : Nat)) (bindW (bindW (retW (some_6 : (Lst Nat))) fun xs : Lst Nat => retW (⟨sortN xs.l⟩ : Lst Nat)) fun xs : (Lst Nat) => retW xs.l) (retW (home : Nat)) fun A_1 A_2 A_3 A_4 => pureW (camW A_1 A_2 A_3 A_4)) (retW (rest_9 : (List Nat))) (fun (a : (List Nat)) (b : (List Nat)) => reqW (shapeOk (enc a) ∧ shapeOk (enc b)) (retW (!PyData.eqv (enc a) (enc b))))) fun B_ => seqW (if B_ = true then (bindW (retW false) fun r => retW (.ret r)) else (retW (.nxt (() : Unit)))) fun (s_10 : Unit) =>
  (retW (.nxt (() : Unit))))) else (retW (.nxt (() : Unit)))) fun (s_7 : Unit) =>
  (retW (.nxt (() : Unit)))))) X_ (() : Unit)) fun (s_3 : Unit) =>
  (bindW (retW true) fun r => retW (.ret r))))
theorem jriW_ex : ∃ g : Nat → Nat → Nat → Nat → M Bool, ∀ wide one_ few home, g wide one_ few home = outW (jriB wide one_ few home) := ⟨fun wide one_ few home => outW (jriB wide one_ few home), fun _ _ _ _ => rfl⟩
/-- sealed -/
def jriW : Nat → Nat → Nat → Nat → M Bool := Classical.choose jriW_ex
theorem jriW_eq (wide : Nat) (one_ : Nat) (few : Nat) (home : Nat) : jriW wide one_ few home = outW (jriB wide one_ few home) := Classical.choose_spec jriW_ex wide one_ few home
theorem jriW_fn : jriW = fun wide one_ few home => outW (jriB wide one_ few home) := funext fun wide => funext fun one_ => funext fun few => funext fun home => jriW_eq wide one_ few home
theorem scJri : FnScope ["_law_wide", "_law_one", "_law_few", "_law_home", "_law_tells", "_law_trees", "_law_some", "_law_tree", "_law_rest"] ["_law_wide", "_law_one", "_law_few", "_law_home"] (defScope sJri) := ⟨rfl, rfl, rfl, by decide +kernel, rfl, by decide +kernel, by decide +kernel⟩
theorem ok_jri {f_cam f_lot f_tel : Addr} {d_cam d_lot d_tel : FuncData} (F : Fun K "_law_just_right" "_law_just_right" sJri f fd) (b : Bls mg) (c_cam : CalS P w K mg base 5 "came" f_cam d_cam ["q", "hand", "lot", "source"] (spW4 K T camW)) (c_lot : CalF P w K mg base 1 "_law_lots" f_lot d_lot ["_law_some", "_law_size"] (spW2 K T lotW)) (c_tel : CalS P w K mg base 7 "teller" f_tel d_tel ["q", "hand", "j", "source"] (spW4 K T telW)) (q_cam_3_0123 : KBinds K d_cam ["q", "hand", "lot", "source"] ["source"] (gN 3 [0, 1, 2, 3]) (gN 3 [0, 1, 2, 3])) (q_tel_3_0123 : KBinds K d_tel ["q", "hand", "j", "source"] ["source"] (gN 3 [0, 1, 2, 3]) (gN 3 [0, 1, 2, 3])) : FnOk P w K mg base CX0 8 f fd ["_law_wide", "_law_one", "_law_few", "_law_home"] (spW4 K T jriW) := by
  refine F.ok scJri (fun vs H Q E h => ?_) (fun cdv A outer s H vs Q E hr h => ?_)
  · exact spW4_len h
  · refine ⟨_, (pss_cons (ps_set (i := 4) scJri.nd rfl (.inr rfl) (pe_lc (own := [("_law_tree", 7)]) (g := (gName 7)) (tt := tYes) (te := (tCallK (spW4 K T telW) (gN 3 [0, 1, 2, 3]) E0 (tCons (tVar 0) (tCons (tVar 1) (tCons (tVar 7) tNil))) (tCons (tVar 3) tNil))) (by rfl) scJri.nd (pi_range1 (by rfl) b.range (pa_cons (pv 0) pa_nil)) (blkOk_by (own := [("_law_tree", 7)]) (N := ["_law_wide", "_law_one", "_law_few", "_law_home", "_law_tells", "_law_trees", "_law_some", "_law_tree", "_law_rest"]) (sc := defScope sJri) (by decide +kernel)) (fun _ _ _ _ _ => (pg_name (i := 7) scJri.nd rfl (Or.inl rfl))) (fun _ _ _ _ _ => pts_nil) (fun _ _ _ _ _ => (pe_callK c_tel.G (hr.mono (by decide)) (by rfl) c_tel.g c_tel.kp q_tel_3_0123 pass0 (pa_cons (pv 0) (pa_cons (pv 1) (pa_cons (pv 7) pa_nil))) (pk_cons (pv 3) pk_nil)))))
      (pss_cons (ps_for PassesOwn.never rfl (pi_list (pe_call c_lot.G (hr.mono (by decide)) (by rfl) c_lot.g c_lot.kp c_lot.b .nil pass0 (pa_cons (pe_listRg (by rfl) (by rfl) b.list (prg_1 (by rfl) b.range (pv 0))) (pa_cons (pv 2) pa_nil)))) (pg_name (i := 5) scJri.nd rfl (Or.inr rfl))
      (pss_cons (ps_setLc (i := 6) (own := [("_law_tree", 7)]) (g := (gName 7)) (tt := tYes) (te := (tOp (L2.rIxL K) (tVar 4) (tVar 7))) (by rfl) scJri.nd rfl (by rfl) (by rfl) (pi_tup (pv 5)) (blkOk_by (own := [("_law_tree", 7)]) (N := ["_law_wide", "_law_one", "_law_few", "_law_home", "_law_tells", "_law_trees", "_law_some", "_law_tree", "_law_rest"]) (sc := defScope sJri) (by decide +kernel)) (fun _ _ _ _ _ => (pg_name (i := 7) scJri.nd rfl (Or.inl rfl))) (fun _ _ _ _ _ => pts_nil) (fun _ _ _ _ _ => (pe_ix ix_list (pv 4) (pv 7) (fun _ _ => rfl))))
      (pss_cons (ps_if (pt_cmpR op_notIn_seq (pv 3) (pv 6) (by rfl)) (pss_cons (ps_set (i := 8) scJri.nd rfl (.inl rfl) (pe_callTy call_tuple_of (by rfl) b.tuple (by decide +kernel) (pa_cons (pe_lc (own := [("_law_tree", 7)]) (g := (gName 7)) (tt := (tTest (tOp (rIn K true) (tVar 7) (tVar 5)))) (te := (tVar 7)) (by rfl) scJri.nd (pi_range1 (by rfl) b.range (pa_cons (pv 0) pa_nil)) (blkOk_by (own := [("_law_tree", 7)]) (N := ["_law_wide", "_law_one", "_law_few", "_law_home", "_law_tells", "_law_trees", "_law_some", "_law_tree", "_law_rest"]) (sc := defScope sJri) (by decide +kernel)) (fun _ _ _ _ _ => (pg_name (i := 7) scJri.nd rfl (Or.inl rfl))) (fun _ _ _ _ _ => (pts_one (pt_cmpR op_notIn_seq (pv 7) (pv 5) (by rfl)))) (fun _ _ _ _ _ => (pv 7))) pa_nil)))
      (pss_cons (ps_if (pt_cmpR (op_neD hr.units) (pe_callK c_cam.G (hr.mono (by decide)) (by rfl) c_cam.g c_cam.kp q_cam_3_0123 pass0 (pa_cons (pv 0) (pa_cons (pv 1) (pa_cons (pe_callTy call_tuple_of (by rfl) b.tuple (by decide +kernel) (pa_cons (pe_callB cr_sortedI (by rfl) b.sorted (by decide +kernel) (pa_cons (pv 6) pa_nil)) pa_nil)) pa_nil))) (pk_cons (pv 3) pk_nil)) (pv 8) (nomark _)) (pss_cons (ps_ret pe_bl)
      pss_nil) pss_nil)
      pss_nil)) pss_nil)
      pss_nil)))
      (pss_cons (ps_ret pe_bl)
      pss_nil))), w4_run (N := ["_law_wide", "_law_one", "_law_few", "_law_home", "_law_tells", "_law_trees", "_law_some", "_law_tree", "_law_rest"]) psl_own psl_own psl_own psl_own (mB := jriB) (ρ := fun (wide : Nat) (one_ : Nat) (few : Nat) (home : Nat) => [.own (enc (wide : Nat)), .own (enc (one_ : Nat)), .own (enc (few : Nat)), .own (enc (home : Nat)), .any, .any, .any, .any, .any]) (ρn := fun _ => []) (ρb := fun _ => []) (C := fun _ => True) (fun _ _ _ _ => rfl) trivial (fun (wide : Nat) (one_ : Nat) (few : Nat) (home : Nat) => 
  (rb_asg (ρ2 := fun (tells_2 : (Lst Nat)) => [.own (enc (wide : Nat)), .own (enc (one_ : Nat)), .own (enc (few : Nat)), .own (enc (home : Nat)), .own (enc (tells_2 : (Lst Nat))), .any, .any, .any, .any]) (re_lc (vs := [7]) (ρw := [.own (enc (wide : Nat)), .own (enc (one_ : Nat)), .own (enc (few : Nat)), .own (enc (home : Nat)), .any, .any, .any, .any, .any]) (ρx := fun (tree_1 : Nat) => [.own (enc (wide : Nat)), .own (enc (one_ : Nat)), .own (enc (few : Nat)), .own (enc (home : Nat)), .any, .any, .any, .own (enc (tree_1 : Nat)), .any]) rfl (ri_range (re_v (i := 0) (a := (wide : Nat)) rfl)) (by decide) (fun (tree_1 : Nat) => (rg_name (i := 7) (ρ' := [.own (enc (wide : Nat)), .own (enc (one_ : Nat)), .own (enc (few : Nat)), .own (enc (home : Nat)), .any, .any, .any, .own (enc (tree_1 : Nat)), .any]) (show 7 < 9 by decide) rfl)) (fun (tree_1 : Nat) => rt_yes) (fun (tree_1 : Nat) => (rk_tel_3_0123 (re_v (i := 0) (a := (wide : Nat)) rfl) (re_v (i := 1) (a := (one_ : Nat)) rfl) (re_v (i := 7) (a := (tree_1 : Nat)) rfl) (re_v (i := 3) (a := (home : Nat)) rfl)))) (fun (tells_2 : (Lst Nat)) => rg_name (i := 4) (show 4 < 9 by decide) rfl) (fun (tells_2 : (Lst Nat)) =>
  (rb_freeze (i := 4) (ρ2 := [.own (enc (wide : Nat)), .own (enc (one_ : Nat)), .own (enc (few : Nat)), .own (enc (home : Nat)), .bor (enc (tells_2 : (Lst Nat))), .any, .any, .any, .any]) rfl rfl (rb_for (s0 := (() : Unit)) (ρl := fun (s_3 : Unit) => [.own (enc (wide : Nat)), .own (enc (one_ : Nat)), .own (enc (few : Nat)), .own (enc (home : Nat)), .bor (enc (tells_2 : (Lst Nat))), .any, .any, .any, .any]) (ρx := fun (trees_4 : (List Nat)) (s_3 : Unit) => [.own (enc (wide : Nat)), .own (enc (one_ : Nat)), .own (enc (few : Nat)), .own (enc (home : Nat)), .bor (enc (tells_2 : (Lst Nat))), .own (enc (trees_4 : (List Nat))), .any, .any, .any]) (ri_lst (re_call2 (re_listRg (re_v (i := 0) (a := (wide : Nat)) rfl)) (re_v (i := 2) (a := (few : Nat)) rfl))) ⟨.eq _, ⟨.eq _, ⟨.eq _, ⟨.eq _, ⟨.eq _, ⟨.any _, ⟨.any _, ⟨.any _, ⟨.any _, trivial⟩⟩⟩⟩⟩⟩⟩⟩⟩ (fun (trees_4 : (List Nat)) (s_3 : Unit) => (rg_name (i := 5) (ρ' := [.own (enc (wide : Nat)), .own (enc (one_ : Nat)), .own (enc (few : Nat)), .own (enc (home : Nat)), .bor (enc (tells_2 : (Lst Nat))), .own (enc (trees_4 : (List Nat))), .any, .any, .any]) (show 5 < 9 by decide) rfl)) (fun (trees_4 : (List Nat)) (s_3 : Unit) =>
  (rb_asg (ρ2 := fun (some_6 : (Lst Nat)) => [.own (enc (wide : Nat)), .own (enc (one_ : Nat)), .own (enc (few : Nat)), .own (enc (home : Nat)), .bor (enc (tells_2 : (Lst Nat))), .own (enc (trees_4 : (List Nat))), .own (enc (some_6 : (Lst Nat))), .any, .any]) (re_lc (vs := [7]) (ρw := [.own (enc (wide : Nat)), .own (enc (one_ : Nat)), .own (enc (few : Nat)), .own (enc (home : Nat)), .bor (enc (tells_2 : (Lst Nat))), .own (enc (trees_4 : (List Nat))), .any, .any, .any]) (ρx := fun (tree_5 : Nat) => [.own (enc (wide : Nat)), .own (enc (one_ : Nat)), .own (enc (few : Nat)), .own (enc (home : Nat)), .bor (enc (tells_2 : (Lst Nat))), .own (enc (trees_4 : (List Nat))), .any, .own (enc (tree_5 : Nat)), .any]) rfl (ri_tup (re_v (i := 5) (a := (trees_4 : (List Nat))) rfl)) (by decide) (fun (tree_5 : Nat) => (rg_name (i := 7) (ρ' := [.own (enc (wide : Nat)), .own (enc (one_ : Nat)), .own (enc (few : Nat)), .own (enc (home : Nat)), .bor (enc (tells_2 : (Lst Nat))), .own (enc (trees_4 : (List Nat))), .any, .own (enc (tree_5 : Nat)), .any]) (show 7 < 9 by decide) rfl)) (fun (tree_5 : Nat) => rt_yes) (fun (tree_5 : Nat) => (re_op ow_ixLN (re_bor (i := 4) (a := (tells_2 : (Lst Nat))) rfl) (re_v (i := 7) (a := (tree_5 : Nat)) rfl)))) (fun (some_6 : (Lst Nat)) => rg_name (i := 6) (show 6 < 9 by decide) rfl) (fun (some_6 : (Lst Nat)) =>
  (rb_if (ρ1 := fun (s_7 : Unit) => [.own (enc (wide : Nat)), .own (enc (one_ : Nat)), .own (enc (few : Nat)), .own (enc (home : Nat)), .bor (enc (tells_2 : (Lst Nat))), .own (enc (trees_4 : (List Nat))), .own (enc (some_6 : (Lst Nat))), .any, .any]) (rt_test (re_op ow_ninL (re_v (i := 3) (a := (home : Nat)) rfl) (re_own (i := 6) (a := (some_6 : (Lst Nat))) rfl)))
  (rb_asg (ρ2 := fun (rest_9 : (List Nat)) => [.own (enc (wide : Nat)), .own (enc (one_ : Nat)), .own (enc (few : Nat)), .own (enc (home : Nat)), .bor (enc (tells_2 : (Lst Nat))), .own (enc (trees_4 : (List Nat))), .own (enc (some_6 : (Lst Nat))), .any, .own (enc (rest_9 : (List Nat)))]) (re_cb uw_tupL (re_lc (vs := [7]) (ρw := [.own (enc (wide : Nat)), .own (enc (one_ : Nat)), .own (enc (few : Nat)), .own (enc (home : Nat)), .bor (enc (tells_2 : (Lst Nat))), .own (enc (trees_4 : (List Nat))), .own (enc (some_6 : (Lst Nat))), .any, .any]) (ρx := fun (tree_8 : Nat) => [.own (enc (wide : Nat)), .own (enc (one_ : Nat)), .own (enc (few : Nat)), .own (enc (home : Nat)), .bor (enc (tells_2 : (Lst Nat))), .own (enc (trees_4 : (List Nat))), .own (enc (some_6 : (Lst Nat))), .own (enc (tree_8 : Nat)), .any]) rfl (ri_range (re_v (i := 0) (a := (wide : Nat)) rfl)) (by decide) (fun (tree_8 : Nat) => (rg_name (i := 7) (ρ' := [.own (enc (wide : Nat)), .own (enc (one_ : Nat)), .own (enc (few : Nat)), .own (enc (home : Nat)), .bor (enc (tells_2 : (Lst Nat))), .own (enc (trees_4 : (List Nat))), .own (enc (some_6 : (Lst Nat))), .own (enc (tree_8 : Nat)), .any]) (show 7 < 9 by decide) rfl)) (fun (tree_8 : Nat) => (rt_test (re_op ow_ninT (re_v (i := 7) (a := (tree_8 : Nat)) rfl) (re_v (i := 5) (a := (trees_4 : (List Nat))) rfl)))) (fun (tree_8 : Nat) => (re_v (i := 7) (a := (tree_8 : Nat)) rfl)))) (fun (rest_9 : (List Nat)) => rg_name (i := 8) (show 8 < 9 by decide) rfl) (fun (rest_9 : (List Nat)) =>
  (rb_if (ρ1 := fun (s_10 : Unit) => [.own (enc (wide : Nat)), .own (enc (one_ : Nat)), .own (enc (few : Nat)), .own (enc (home : Nat)), .bor (enc (tells_2 : (Lst Nat))), .own (enc (trees_4 : (List Nat))), .own (enc (some_6 : (Lst Nat))), .any, .own (enc (rest_9 : (List Nat)))]) (rt_test (re_op ow_neD (rk_cam_3_0123 (re_v (i := 0) (a := (wide : Nat)) rfl) (re_v (i := 1) (a := (one_ : Nat)) rfl) (re_cb uw_tupL (re_cb uw_sorted (re_own (i := 6) (a := (some_6 : (Lst Nat))) rfl))) (re_v (i := 3) (a := (home : Nat)) rfl)) (re_v (i := 8) (a := (rest_9 : (List Nat))) rfl)))
  (rb_ret (re_bool false))
  (rb_end (s := (() : Unit)) ⟨.eq _, ⟨.eq _, ⟨.eq _, ⟨.eq _, ⟨.eq _, ⟨.eq _, ⟨.eq _, ⟨.any _, ⟨.eq _, trivial⟩⟩⟩⟩⟩⟩⟩⟩⟩) (fun (s_10 : Unit) =>
  (rb_end (s := (() : Unit)) ⟨.eq _, ⟨.eq _, ⟨.eq _, ⟨.eq _, ⟨.eq _, ⟨.eq _, ⟨.eq _, ⟨.any _, ⟨.any _, trivial⟩⟩⟩⟩⟩⟩⟩⟩⟩)))))
  (rb_end (s := (() : Unit)) ⟨.eq _, ⟨.eq _, ⟨.eq _, ⟨.eq _, ⟨.eq _, ⟨.eq _, ⟨.eq _, ⟨.any _, ⟨.any _, trivial⟩⟩⟩⟩⟩⟩⟩⟩⟩) (fun (s_7 : Unit) =>
  (rb_end (s := (() : Unit)) ⟨.eq _, ⟨.eq _, ⟨.eq _, ⟨.eq _, ⟨.eq _, ⟨.any _, ⟨.any _, ⟨.any _, ⟨.any _, trivial⟩⟩⟩⟩⟩⟩⟩⟩⟩)))))) (fun (s_3 : Unit) =>
  (rb_ret (re_bool true)))))))) (by rw [jriW_fn] at h; exact h)⟩
/-! ### law -/
def lawB (ns : List Int) : M (Ctl Bool Unit Unit) :=
  (bindW (bindW (b2W (retW (1 : Nat)) (b2W (retW (2 : Nat)) (retW ns.length) (fun a b : Nat => retW (min a b))) (fun a b : Nat => retW (max a b))) fun k => reqW (k < 4611686018427387904) (retW (List.range k))) fun X_ => seqW (forW (fun (nth_2 : Nat) (s_1 : Unit) =>
  (potW (ns.length ≤ 63 ∧ nth_2 ≤ 100) (bindW (c1W (bindW (b2W (b2W (retW (3 : Nat)) (retW (1 : Nat)) fun a b => retW (a, b)) (b2W (b2W (retW (3 : Nat)) (retW (2 : Nat)) fun a b => retW (a, b)) (b2W (b2W (retW (4 : Nat)) (retW (1 : Nat)) fun a b => retW (a, b)) (b2W (b2W (retW (2 : Nat)) (retW (1 : Nat)) fun a b => retW (a, b)) (b2W (b2W (retW (3 : Nat)) (retW (3 : Nat)) fun a b => retW (a, b)) (b2W (b2W (retW (4 : Nat)) (retW (2 : Nat)) fun a b => retW (a, b)) (b2W (b2W (retW (2 : Nat)) (retW (2 : Nat)) fun a b => retW (a, b)) (b2W (b2W (retW (3 : Nat)) (retW (0 : Nat)) fun a b => retW (a, b)) (retW ([] : List (Nat × Nat))) fun a as => retW (a :: as)) fun a as => retW (a :: as)) fun a as => retW (a :: as)) fun a as => retW (a :: as)) fun a as => retW (a :: as)) fun a as => retW (a :: as)) fun a as => retW (a :: as)) fun a as => retW (a :: as)) fun xs => reqW (xs.length ≤ sizeLine) (retW (⟨xs⟩ : Lst (Nat × Nat)))) fun A_1 => ofW A_1) fun (p_3 : (Nat × Nat)) =>
  (bindW (b2W (c1W (retW (p_3.1 : Nat)) fun A_1 => fiW A_1) (c1W (retW (p_3.1 : Nat)) fun A_1 => oriW A_1) fun a b => retW (a, b)) fun (p_4 : (Nat × Nat)) =>
  (bindW (c2W (retW (p_4.1 : Nat)) (c2W (retW (p_3.1 : Nat)) (retW (p_3.2 : Nat)) fun A_1 A_2 => pureW (tlbW A_1 A_2)) fun A_1 A_2 => nuW A_1 A_2) fun (line_5 : (List Nat)) =>
  (bindW (mapW Lst.l (c2W (bindW (bindW (b2W (retW (1 : Nat)) (retW (p_3.1 : Nat)) (fun a b : Nat => reqW (a = 1 ∧ b ≤ 134217727) (retW (2 ^ b)))) fun k => reqW (k < 4611686018427387904) (retW (List.range k))) fun X_ => reqW (X_.length ≤ sizeLine) (lcW (fun (one_6 : Nat) => (b2W (retW (one_6 : Nat)) (retW (p_4.2 : Nat)) (fun a b : Nat => retW (!decide (a = b))))) (fun (one_6 : Nat) => (retW (one_6 : Nat))) X_ [])) (retW (p_3.2 : Nat)) fun A_1 A_2 => pureW (lotW A_1 A_2))) fun X_ => seqW (forW (fun (shut_8 : (List Nat)) (s_7 : Unit) =>
  (bindW (mapW (fun b => !b) (c5W (retW (p_4.1 : Nat)) (retW (p_3.1 : Nat)) (retW (shut_8 : (List Nat))) (retW (line_5 : (List Nat))) (retW (p_4.2 : Nat)) fun A_1 A_2 A_3 A_4 A_5 => pureW (lriW A_1 A_2 A_3 A_4 A_5))) fun B_ => seqW (if B_ = true then (bindW (retW false) fun r => retW (.ret r)) else (retW (.nxt (() : Unit)))) fun (s_9 : Unit) =>
  (retW (.nxt (() : Unit))))) X_ (() : Unit)) fun (s_7 : Unit) =>
  (bindW (bindW (b2W (retW (1 : Nat)) (retW (p_3.1 : Nat)) (fun a b : Nat => reqW (a = 1 ∧ b ≤ 134217727) (retW (2 ^ b)))) fun k => reqW (k < 4611686018427387904) (retW (List.range k))) fun X_ => seqW (forW (fun (one_11 : Nat) (s_10 : Unit) =>
  (bindW (andW (b2W (retW (one_11 : Nat)) (retW (p_4.2 : Nat)) (fun a b : Nat => retW (!decide (a = b)))) (mapW (fun b => !b) (c4W (retW (p_3.1 : Nat)) (retW (one_11 : Nat)) (retW (p_3.2 : Nat)) (retW (p_4.2 : Nat)) fun A_1 A_2 A_3 A_4 => pureW (jriW A_1 A_2 A_3 A_4)))) fun B_ => seqW (if B_ = true then (bindW (retW false) fun r => retW (.ret r)) else (retW (.nxt (() : Unit)))) fun (s_12 : Unit) =>
  (retW (.nxt (() : Unit))))) X_ (() : Unit)) fun (s_10 : Unit) =>
  (retW (.nxt (() : Unit)))))))))) X_ (() : Unit)) fun (s_1 : Unit) =>
  (bindW (retW true) fun r => retW (.ret r)))
theorem scLaw : FnScope ["_law_script", "_law_nth", "_law_pot", "_law_line", "_law_shut", "_law_one", "_law_wide", "_law_few", "_law_prime", "_law_home"] ["_law_script"] (defScope sLaw) := ⟨rfl, rfl, rfl, by decide +kernel, rfl, by decide +kernel, by decide +kernel⟩
theorem ok_law {f_fi f_jri f_lot f_lri f_nu f_of f_ori f_tlb : Addr} {d_fi d_jri d_lot d_lri d_nu d_of d_ori d_tlb : FuncData} {f_urn : Addr} {d_urn : FuncData} (F : Fun K "law" "law" sLaw f fd) (b : Bls mg) (c_fi : CalF P w K mg base 3 "_law_field" f_fi d_fi ["_law_pot", "_law_wide"] (spP1 K T fiW)) (c_jri : CalF P w K mg base 8 "_law_just_right" f_jri d_jri ["_law_wide", "_law_one", "_law_few", "_law_home"] (spW4 K T jriW)) (c_lot : CalF P w K mg base 1 "_law_lots" f_lot d_lot ["_law_some", "_law_size"] (spW2 K T lotW)) (c_lri : CalF P w K mg base 6 "_law_lot_right" f_lri d_lri ["_law_prime", "_law_wide", "_law_shut", "_law_line", "_law_home"] (spW5 K T lriW)) (c_nu : CalF P w K mg base 3 "_law_numbers" f_nu d_nu ["_law_pot", "_law_prime", "_law_size"] (spP2 K T nuW)) (c_of : ∀ {α : Type} [Enc α] [Pu α], CalF P w K mg base 2 "_law_of" f_of d_of ["_law_pot", "_law_some"] (spP1 K T (ofW (α := α)))) (c_ori : CalF P w K mg base 3 "_law_origin" f_ori d_ori ["_law_pot", "_law_wide"] (spP1 K T oriW)) (c_tlb : CalF P w K mg base 1 "tellable" f_tlb d_tlb ["q", "f"] (spW2 K T tlbW)) (c_urn : CalF P w K mg base 1 "_law_urn" f_urn d_urn ["_law_script", "_law_nth"] (spPot K)) (win : ∀ ns : List Int, ns.length ≤ 63 → outW (lawB ns) 0 fun r _ => r = true) : FnOk P w K mg base CX0 9 f fd ["_law_script"] (spLawT K T) := by
  refine F.ok scLaw (fun vs H Q E h => ?_) (fun cdv A outer s H vs Q E hr h => ?_)
  · exact spLawT_len h
  · refine ⟨_, (pss_cons (ps_for PassesOwn.never rfl (pi_range1 (by rfl) b.range (pa_cons (pe_callB (call_max2 rfl) (by rfl) b.max (by decide +kernel) (pa_cons pe_int (pa_cons (pe_callB (call_min2 rfl) (by rfl) b.min (by decide +kernel) (pa_cons pe_int (pa_cons (pe_callB call_len_seq (by rfl) b.len PySem.boot_len (pa_cons (pv 0) pa_nil)) pa_nil))) pa_nil))) pa_nil)) (pg_name (i := 1) scLaw.nd rfl (Or.inl rfl))
      (pss_cons (ps_set (i := 2) scLaw.nd rfl (.inl rfl) (pe_call c_urn.G (hr.mono (by decide)) (by rfl) c_urn.g c_urn.kp c_urn.b .nil pass0 (pa_cons (pv 0) (pa_cons (pv 1) pa_nil))))
      (pss_cons (ps_asg (pe_call (c_of (α := (Nat × Nat))).G (hr.mono (by decide)) (by rfl) (c_of (α := (Nat × Nat))).g (c_of (α := (Nat × Nat))).kp (c_of (α := (Nat × Nat))).b .nil pass0 (pa_cons (pv 2) (pa_cons (pe_lst (pa_cons (pe_tup (pa_cons pe_int (pa_cons pe_int pa_nil))) (pa_cons (pe_tup (pa_cons pe_int (pa_cons pe_int pa_nil))) (pa_cons (pe_tup (pa_cons pe_int (pa_cons pe_int pa_nil))) (pa_cons (pe_tup (pa_cons pe_int (pa_cons pe_int pa_nil))) (pa_cons (pe_tup (pa_cons pe_int (pa_cons pe_int pa_nil))) (pa_cons (pe_tup (pa_cons pe_int (pa_cons pe_int pa_nil))) (pa_cons (pe_tup (pa_cons pe_int (pa_cons pe_int pa_nil))) (pa_cons (pe_tup (pa_cons pe_int (pa_cons pe_int pa_nil))) pa_nil))))))))) pa_nil))) (pg_tup (by rfl) (pgs_cons (pg_name (i := 6) scLaw.nd rfl (Or.inl rfl)) (pgs_cons (pg_name (i := 7) scLaw.nd rfl (Or.inl rfl)) pgs_nil))))
      (pss_cons (ps_asg (pe_tup (pa_cons (pe_call c_fi.G (hr.mono (by decide)) (by rfl) c_fi.g c_fi.kp c_fi.b .nil pass0 (pa_cons (pv 2) (pa_cons (pv 6) pa_nil))) (pa_cons (pe_call c_ori.G (hr.mono (by decide)) (by rfl) c_ori.g c_ori.kp c_ori.b .nil pass0 (pa_cons (pv 2) (pa_cons (pv 6) pa_nil))) pa_nil))) (pg_tup (by rfl) (pgs_cons (pg_name (i := 8) scLaw.nd rfl (Or.inl rfl)) (pgs_cons (pg_name (i := 9) scLaw.nd rfl (Or.inr rfl)) pgs_nil))))
      (pss_cons (ps_set (i := 3) scLaw.nd rfl (.inl rfl) (pe_call c_nu.G (hr.mono (by decide)) (by rfl) c_nu.g c_nu.kp c_nu.b .nil pass0 (pa_cons (pv 2) (pa_cons (pv 8) (pa_cons (pe_call c_tlb.G (hr.mono (by decide)) (by rfl) c_tlb.g c_tlb.kp c_tlb.b .nil pass0 (pa_cons (pv 6) (pa_cons (pv 7) pa_nil))) pa_nil)))))
      (pss_cons (ps_for PassesOwn.never rfl (pi_list (pe_call c_lot.G (hr.mono (by decide)) (by rfl) c_lot.g c_lot.kp c_lot.b .nil pass0 (pa_cons (pe_lc (own := [("_law_one", 5)]) (g := (gName 5)) (tt := (tTest (tOp _ (tVar 5) (tVar 9)))) (te := (tVar 5)) (by rfl) scLaw.nd (pi_range1 (by rfl) b.range (pa_cons (pe_op op_bit pe_int (pv 6)) pa_nil)) (blkOk_by (own := [("_law_one", 5)]) (N := ["_law_script", "_law_nth", "_law_pot", "_law_line", "_law_shut", "_law_one", "_law_wide", "_law_few", "_law_prime", "_law_home"]) (sc := defScope sLaw) (by decide +kernel)) (fun _ _ _ _ _ => (pg_name (i := 5) scLaw.nd rfl (Or.inl rfl))) (fun _ _ _ _ _ => (pts_one (pt_cmpR op_ne (pv 5) (pv 9) (nomark _)))) (fun _ _ _ _ _ => (pv 5))) (pa_cons (pv 7) pa_nil)))) (pg_name (i := 4) scLaw.nd rfl (Or.inl rfl))
      (pss_cons (ps_if (pt_not (pt_val (pe_call c_lri.G (hr.mono (by decide)) (by rfl) c_lri.g c_lri.kp c_lri.b .nil pass0 (pa_cons (pv 8) (pa_cons (pv 6) (pa_cons (pv 4) (pa_cons (pv 3) (pa_cons (pv 9) pa_nil)))))))) (pss_cons (ps_ret pe_bl)
      pss_nil) pss_nil)
      pss_nil))
      (pss_cons (ps_for PassesOwn.never rfl (pi_range1 (by rfl) b.range (pa_cons (pe_op op_bit pe_int (pv 6)) pa_nil)) (pg_name (i := 5) scLaw.nd rfl (Or.inl rfl))
      (pss_cons (ps_if (PW.pt (pw_and (pt_cmpR op_ne (pv 5) (pv 9) (nomark _)) (pw_and1 (pt_not (pt_val (pe_call c_jri.G (hr.mono (by decide)) (by rfl) c_jri.g c_jri.kp c_jri.b .nil pass0 (pa_cons (pv 6) (pa_cons (pv 5) (pa_cons (pv 7) (pa_cons (pv 9) pa_nil)))))))))) (pss_cons (ps_ret pe_bl)
      pss_nil) pss_nil)
      pss_nil))
      pss_nil)))))))
      (pss_cons (ps_ret pe_bl)
      pss_nil)), lawT_run (T := T) (N := ["_law_script", "_law_nth", "_law_pot", "_law_line", "_law_shut", "_law_one", "_law_wide", "_law_few", "_law_prime", "_law_home"]) (mB := lawB) (ρ := fun ns => [.scr ns, .any, .any, .any, .any, .any, .any, .any, .any, .any]) (ρn := fun _ => []) (ρb := fun _ => []) (C := fun po => po = none) (fun _ => rfl) rfl (fun ns =>
  (rb_for (s0 := (() : Unit)) (ρl := fun (s_1 : Unit) => [.scr ns, .any, .any, .any, .any, .any, .any, .any, .any, .any]) (ρx := fun (nth_2 : Nat) (s_1 : Unit) => [.scr ns, .own (enc (nth_2 : Nat)), .any, .any, .any, .any, .any, .any, .any, .any]) (ri_range (re_cb2 ow_max (re_nat 1) (re_cb2 ow_min (re_nat 2) (re_lenS (i := 0) (ns := ns) rfl)))) ⟨.eq _, ⟨.any _, ⟨.any _, ⟨.any _, ⟨.any _, ⟨.any _, ⟨.any _, ⟨.any _, ⟨.any _, ⟨.any _, trivial⟩⟩⟩⟩⟩⟩⟩⟩⟩⟩ (fun (nth_2 : Nat) (s_1 : Unit) => (rg_name (i := 1) (ρ' := [.scr ns, .own (enc (nth_2 : Nat)), .any, .any, .any, .any, .any, .any, .any, .any]) (show 1 < 10 by decide) rfl)) (fun (nth_2 : Nat) (s_1 : Unit) =>
  (rb_newpot (i := 2) (ρ2 := [.scr ns, .own (enc (nth_2 : Nat)), .pot, .any, .any, .any, .any, .any, .any, .any]) (fun Bs φ σ H n st hk Q q => urn_pot st rfl (i2 := 1) rfl hk q) (show 2 < 10 by decide) trivial rfl (rb_asg (ρ2 := fun (p_3 : (Nat × Nat)) => [.scr ns, .own (enc (nth_2 : Nat)), .pot, .any, .any, .any, .own (enc (p_3.1 : Nat)), .own (enc (p_3.2 : Nat)), .any, .any]) (re_callp1 (ip := 2) rfl (re_lst (ras_cons (re_pair (re_nat 3) (re_nat 1)) (ras_cons (re_pair (re_nat 3) (re_nat 2)) (ras_cons (re_pair (re_nat 4) (re_nat 1)) (ras_cons (re_pair (re_nat 2) (re_nat 1)) (ras_cons (re_pair (re_nat 3) (re_nat 3)) (ras_cons (re_pair (re_nat 4) (re_nat 2)) (ras_cons (re_pair (re_nat 2) (re_nat 2)) (ras_cons (re_pair (re_nat 3) (re_nat 0)) ras_nil)))))))))) (fun (p_3 : (Nat × Nat)) => (rg_two (i := 6) (j := 7) (ρ1 := [.scr ns, .own (enc (nth_2 : Nat)), .pot, .any, .any, .any, .own (enc (p_3.1 : Nat)), .any, .any, .any]) (ρ' := [.scr ns, .own (enc (nth_2 : Nat)), .pot, .any, .any, .any, .own (enc (p_3.1 : Nat)), .own (enc (p_3.2 : Nat)), .any, .any]) (show 6 < 10 by decide) (show 7 < 10 by decide) (by decide) rfl rfl)) (fun (p_3 : (Nat × Nat)) =>
  (rb_asg (ρ2 := fun (p_4 : (Nat × Nat)) => [.scr ns, .own (enc (nth_2 : Nat)), .pot, .any, .any, .any, .own (enc (p_3.1 : Nat)), .own (enc (p_3.2 : Nat)), .own (enc (p_4.1 : Nat)), .own (enc (p_4.2 : Nat))]) (re_pair (re_callp1 (ip := 2) rfl (re_v (i := 6) (a := (p_3.1 : Nat)) rfl)) (re_callp1 (ip := 2) rfl (re_v (i := 6) (a := (p_3.1 : Nat)) rfl))) (fun (p_4 : (Nat × Nat)) => (rg_two (i := 8) (j := 9) (ρ1 := [.scr ns, .own (enc (nth_2 : Nat)), .pot, .any, .any, .any, .own (enc (p_3.1 : Nat)), .own (enc (p_3.2 : Nat)), .own (enc (p_4.1 : Nat)), .any]) (ρ' := [.scr ns, .own (enc (nth_2 : Nat)), .pot, .any, .any, .any, .own (enc (p_3.1 : Nat)), .own (enc (p_3.2 : Nat)), .own (enc (p_4.1 : Nat)), .own (enc (p_4.2 : Nat))]) (show 8 < 10 by decide) (show 9 < 10 by decide) (by decide) rfl rfl)) (fun (p_4 : (Nat × Nat)) =>
  (rb_asg (ρ2 := fun (line_5 : (List Nat)) => [.scr ns, .own (enc (nth_2 : Nat)), .pot, .own (enc (line_5 : (List Nat))), .any, .any, .own (enc (p_3.1 : Nat)), .own (enc (p_3.2 : Nat)), .own (enc (p_4.1 : Nat)), .own (enc (p_4.2 : Nat))]) (re_callp2 (ip := 2) rfl (re_v (i := 8) (a := (p_4.1 : Nat)) rfl) (re_call2 (re_v (i := 6) (a := (p_3.1 : Nat)) rfl) (re_v (i := 7) (a := (p_3.2 : Nat)) rfl))) (fun (line_5 : (List Nat)) => rg_name (i := 3) (show 3 < 10 by decide) rfl) (fun (line_5 : (List Nat)) =>
  (rb_for (s0 := (() : Unit)) (ρl := fun (s_7 : Unit) => [.scr ns, .own (enc (nth_2 : Nat)), .pot, .own (enc (line_5 : (List Nat))), .any, .any, .own (enc (p_3.1 : Nat)), .own (enc (p_3.2 : Nat)), .own (enc (p_4.1 : Nat)), .own (enc (p_4.2 : Nat))]) (ρx := fun (shut_8 : (List Nat)) (s_7 : Unit) => [.scr ns, .own (enc (nth_2 : Nat)), .pot, .own (enc (line_5 : (List Nat))), .own (enc (shut_8 : (List Nat))), .any, .own (enc (p_3.1 : Nat)), .own (enc (p_3.2 : Nat)), .own (enc (p_4.1 : Nat)), .own (enc (p_4.2 : Nat))]) (ri_lst (re_call2 (re_lc (vs := [5]) (ρw := [.scr ns, .own (enc (nth_2 : Nat)), .pot, .own (enc (line_5 : (List Nat))), .any, .any, .own (enc (p_3.1 : Nat)), .own (enc (p_3.2 : Nat)), .own (enc (p_4.1 : Nat)), .own (enc (p_4.2 : Nat))]) (ρx := fun (one_6 : Nat) => [.scr ns, .own (enc (nth_2 : Nat)), .pot, .own (enc (line_5 : (List Nat))), .any, .own (enc (one_6 : Nat)), .own (enc (p_3.1 : Nat)), .own (enc (p_3.2 : Nat)), .own (enc (p_4.1 : Nat)), .own (enc (p_4.2 : Nat))]) rfl (ri_range (re_op ow_bit (re_nat 1) (re_v (i := 6) (a := (p_3.1 : Nat)) rfl))) (by decide) (fun (one_6 : Nat) => (rg_name (i := 5) (ρ' := [.scr ns, .own (enc (nth_2 : Nat)), .pot, .own (enc (line_5 : (List Nat))), .any, .own (enc (one_6 : Nat)), .own (enc (p_3.1 : Nat)), .own (enc (p_3.2 : Nat)), .own (enc (p_4.1 : Nat)), .own (enc (p_4.2 : Nat))]) (show 5 < 10 by decide) rfl)) (fun (one_6 : Nat) => (rt_test (re_op ow_neN (re_v (i := 5) (a := (one_6 : Nat)) rfl) (re_v (i := 9) (a := (p_4.2 : Nat)) rfl)))) (fun (one_6 : Nat) => (re_v (i := 5) (a := (one_6 : Nat)) rfl))) (re_v (i := 7) (a := (p_3.2 : Nat)) rfl))) ⟨.eq _, ⟨.eq _, ⟨.eq _, ⟨.eq _, ⟨.any _, ⟨.any _, ⟨.eq _, ⟨.eq _, ⟨.eq _, ⟨.eq _, trivial⟩⟩⟩⟩⟩⟩⟩⟩⟩⟩ (fun (shut_8 : (List Nat)) (s_7 : Unit) => (rg_name (i := 4) (ρ' := [.scr ns, .own (enc (nth_2 : Nat)), .pot, .own (enc (line_5 : (List Nat))), .own (enc (shut_8 : (List Nat))), .any, .own (enc (p_3.1 : Nat)), .own (enc (p_3.2 : Nat)), .own (enc (p_4.1 : Nat)), .own (enc (p_4.2 : Nat))]) (show 4 < 10 by decide) rfl)) (fun (shut_8 : (List Nat)) (s_7 : Unit) =>
  (rb_if (ρ1 := fun (s_9 : Unit) => [.scr ns, .own (enc (nth_2 : Nat)), .pot, .own (enc (line_5 : (List Nat))), .own (enc (shut_8 : (List Nat))), .any, .own (enc (p_3.1 : Nat)), .own (enc (p_3.2 : Nat)), .own (enc (p_4.1 : Nat)), .own (enc (p_4.2 : Nat))]) (rt_not (rt_val (re_call5 (re_v (i := 8) (a := (p_4.1 : Nat)) rfl) (re_v (i := 6) (a := (p_3.1 : Nat)) rfl) (re_v (i := 4) (a := (shut_8 : (List Nat))) rfl) (re_v (i := 3) (a := (line_5 : (List Nat))) rfl) (re_v (i := 9) (a := (p_4.2 : Nat)) rfl))))
  (rb_ret (re_bool false))
  (rb_end (s := (() : Unit)) ⟨.eq _, ⟨.eq _, ⟨.eq _, ⟨.eq _, ⟨.eq _, ⟨.any _, ⟨.eq _, ⟨.eq _, ⟨.eq _, ⟨.eq _, trivial⟩⟩⟩⟩⟩⟩⟩⟩⟩⟩) (fun (s_9 : Unit) =>
  (rb_end (s := (() : Unit)) ⟨.eq _, ⟨.eq _, ⟨.eq _, ⟨.eq _, ⟨.any _, ⟨.any _, ⟨.eq _, ⟨.eq _, ⟨.eq _, ⟨.eq _, trivial⟩⟩⟩⟩⟩⟩⟩⟩⟩⟩)))) (fun (s_7 : Unit) =>
  (rb_for (s0 := (() : Unit)) (ρl := fun (s_10 : Unit) => [.scr ns, .own (enc (nth_2 : Nat)), .pot, .own (enc (line_5 : (List Nat))), .any, .any, .own (enc (p_3.1 : Nat)), .own (enc (p_3.2 : Nat)), .own (enc (p_4.1 : Nat)), .own (enc (p_4.2 : Nat))]) (ρx := fun (one_11 : Nat) (s_10 : Unit) => [.scr ns, .own (enc (nth_2 : Nat)), .pot, .own (enc (line_5 : (List Nat))), .any, .own (enc (one_11 : Nat)), .own (enc (p_3.1 : Nat)), .own (enc (p_3.2 : Nat)), .own (enc (p_4.1 : Nat)), .own (enc (p_4.2 : Nat))]) (ri_range (re_op ow_bit (re_nat 1) (re_v (i := 6) (a := (p_3.1 : Nat)) rfl))) ⟨.eq _, ⟨.eq _, ⟨.eq _, ⟨.eq _, ⟨.any _, ⟨.any _, ⟨.eq _, ⟨.eq _, ⟨.eq _, ⟨.eq _, trivial⟩⟩⟩⟩⟩⟩⟩⟩⟩⟩ (fun (one_11 : Nat) (s_10 : Unit) => (rg_name (i := 5) (ρ' := [.scr ns, .own (enc (nth_2 : Nat)), .pot, .own (enc (line_5 : (List Nat))), .any, .own (enc (one_11 : Nat)), .own (enc (p_3.1 : Nat)), .own (enc (p_3.2 : Nat)), .own (enc (p_4.1 : Nat)), .own (enc (p_4.2 : Nat))]) (show 5 < 10 by decide) rfl)) (fun (one_11 : Nat) (s_10 : Unit) =>
  (rb_if (ρ1 := fun (s_12 : Unit) => [.scr ns, .own (enc (nth_2 : Nat)), .pot, .own (enc (line_5 : (List Nat))), .any, .own (enc (one_11 : Nat)), .own (enc (p_3.1 : Nat)), .own (enc (p_3.2 : Nat)), .own (enc (p_4.1 : Nat)), .own (enc (p_4.2 : Nat))]) (rt_and (rt_test (re_op ow_neN (re_v (i := 5) (a := (one_11 : Nat)) rfl) (re_v (i := 9) (a := (p_4.2 : Nat)) rfl))) (rt_not (rt_val (re_call4 (re_v (i := 6) (a := (p_3.1 : Nat)) rfl) (re_v (i := 5) (a := (one_11 : Nat)) rfl) (re_v (i := 7) (a := (p_3.2 : Nat)) rfl) (re_v (i := 9) (a := (p_4.2 : Nat)) rfl)))))
  (rb_ret (re_bool false))
  (rb_end (s := (() : Unit)) ⟨.eq _, ⟨.eq _, ⟨.eq _, ⟨.eq _, ⟨.any _, ⟨.eq _, ⟨.eq _, ⟨.eq _, ⟨.eq _, ⟨.eq _, trivial⟩⟩⟩⟩⟩⟩⟩⟩⟩⟩) (fun (s_12 : Unit) =>
  (rb_end (s := (() : Unit)) ⟨.eq _, ⟨.eq _, ⟨.eq _, ⟨.eq _, ⟨.any _, ⟨.any _, ⟨.eq _, ⟨.eq _, ⟨.eq _, ⟨.eq _, trivial⟩⟩⟩⟩⟩⟩⟩⟩⟩⟩)))) (fun (s_10 : Unit) =>
  (rb_end (s := (() : Unit)) ⟨.eq _, ⟨.any _, ⟨.any _, ⟨.any _, ⟨.any _, ⟨.any _, ⟨.any _, ⟨.any _, ⟨.any _, ⟨.any _, trivial⟩⟩⟩⟩⟩⟩⟩⟩⟩⟩))))))))))) (fun _ => trivial) (fun _ => trivial))) (fun (s_1 : Unit) =>
  (rb_ret (re_bool true))))) h win⟩
end
end Bf
namespace Bf
open PySem PySem.Spec PyProof.Rows L2 LamX NdefX
/-! ## more of what words come to -/
theorem and_w {a b : M Bool} {x y : Bool} {n : Nat} {P : Bool → Nat → Prop} (ha : ∀ Q : Bool → Nat → Prop, Q x n → a n Q) (hb : x = true → ∀ Q : Bool → Nat → Prop, Q y n → b n Q) (p : P (x && y) n) : andW a b n P := by
  refine ha _ ?_
  cases x with
  | true => exact hb rfl _ p
  | false => exact p
theorem or_w {a b : M Bool} {x y : Bool} {n : Nat} {P : Bool → Nat → Prop} (ha : ∀ Q : Bool → Nat → Prop, Q x n → a n Q) (hb : x = false → ∀ Q : Bool → Nat → Prop, Q y n → b n Q) (p : P (x || y) n) : orW a b n P := by
  refine ha _ ?_
  cases x with
  | true => exact p
  | false => exact hb rfl _ p
section
variable {α β γ R B S S2 : Type}
theorem and_b {a b : M Bool} {x y : Bool} {n : Nat} {k : Bool → M β} {P : β → Nat → Prop} (ha : ∀ Q : Bool → Nat → Prop, Q x n → a n Q) (hb : x = true → ∀ Q : Bool → Nat → Prop, Q y n → b n Q) (p : k (x && y) n P) : bindW (andW a b) k n P := and_w ha hb p
theorem or_b {a b : M Bool} {x y : Bool} {n : Nat} {k : Bool → M β} {P : β → Nat → Prop} (ha : ∀ Q : Bool → Nat → Prop, Q x n → a n Q) (hb : x = false → ∀ Q : Bool → Nat → Prop, Q y n → b n Q) (p : k (x || y) n P) : bindW (orW a b) k n P := or_w ha hb p
/-- an if that isn't gone into -/
theorem seq_skip {c : Bool} {a : M (Ctl R B S)} {s : S} {k : S → M (Ctl R B S2)} {n : Nat} {P : Ctl R B S2 → Nat → Prop} (e : c = false) (h : k s n P) : seqW (if c = true then a else retW (.nxt s)) k n P := by
  subst e
  exact h
theorem lcW_both {mt : α → M Bool} {me : α → M β} {t : α → Bool} {g : α → β} {xs : List α} {n0 : Nat} {P : Lst β → Nat → Prop} (ht : ∀ (i : Nat) a n, xs[i]? = some a → ∀ Q : Bool → Nat → Prop, Q (t a) n → mt a n Q) (h : ∀ (i : Nat) a n, xs[i]? = some a → t a = true → ∀ Q : β → Nat → Prop, Q (g a) n → me a n Q) (p : P ⟨(xs.filter t).map g⟩ n0) : lcW mt me xs [] n0 P := by
  refine lcW_inv (fun i acc n => n = n0 ∧ acc = ((xs.take i).filter t).map g) ⟨rfl, rfl⟩ ?_ ?_
  · rintro i a acc n e ⟨rfl, rfl⟩ Q q
    refine ht i a _ e _ ?_
    have et : (xs.take (i + 1)).filter t = (xs.take i).filter t ++ (if t a = true then [a] else []) := by
      rw [List.take_add_one, e, List.filter_append]
      show _ ++ List.filter t [a] = _
      rw [List.filter_cons]
      rfl
    cases hta : t a with
    | true =>
      rw [if_pos rfl]
      refine h i a _ e hta _ (q _ _ ⟨rfl, ?_⟩)
      rw [et, hta, if_pos rfl, List.map_append]
      rfl
    | false =>
      rw [if_neg (by decide)]
      refine q _ _ ⟨rfl, ?_⟩
      rw [et, hta, if_neg (by decide), List.append_nil]
  · rintro acc n ⟨rfl, rfl⟩
    rw [List.take_length]
    exact p
/-- two fors, each item made into a row of things -/
theorem lc2W_inv {mt : α → M Bool} {mi2 : α → M (List β)} {mt2 : α → β → M Bool} {me : α → β → M γ} {xs : List α} {n0 : Nat} {P : Lst γ → Nat → Prop} (I : Nat → List γ → Nat → Prop) (h0 : I 0 [] n0)
    (h : ∀ i a acc n, xs[i]? = some a → I i acc n → ∀ Q : List γ → Nat → Prop, (∀ acc' n', I (i + 1) acc' n' → Q acc' n') → mt a n fun b n1 => if b = true then mi2 a n1 fun ys n2 => acc.length + ys.length ≤ sizeLine ∧ lcW (mt2 a) (me a) ys acc n2 fun r n3 => Q r.l n3 else Q acc n1) (he : ∀ acc n, I xs.length acc n → P ⟨acc⟩ n) : lc2W mt mi2 mt2 me xs [] n0 P := by
  have key : ∀ (ys : List α) (k : Nat) (acc : List γ) (n : Nat), xs.drop k = ys → k ≤ xs.length → I k acc n → lc2W mt mi2 mt2 me ys acc n P := by
    intro ys
    induction ys with
    | nil =>
      intro k acc n e hk i
      have := drop_nil e hk
      subst this
      rw [lc2W_nil]
      exact he acc n i
    | cons y ys ih =>
      intro k acc n e hk i
      rw [lc2W_cons]
      obtain ⟨hy, hk2, ey⟩ := drop_cons e
      have z := h k y acc n hy i (fun acc' n' => lc2W mt mi2 mt2 me ys acc' n' P) fun acc' n' i' => ih (k + 1) acc' n' ey hk2 i'
      show mt y n fun b n1 => (if b = true then bindW (mi2 y) fun zs => reqW (acc.length + zs.length ≤ sizeLine) (bindW (lcW (mt2 y) (me y) zs acc) fun r => lc2W mt mi2 mt2 me ys r.l) else lc2W mt mi2 mt2 me ys acc) n1 P
      have e2 : (fun (b : Bool) (n1 : Nat) => (if b = true then bindW (mi2 y) fun zs => reqW (acc.length + zs.length ≤ sizeLine) (bindW (lcW (mt2 y) (me y) zs acc) fun r => lc2W mt mi2 mt2 me ys r.l) else lc2W mt mi2 mt2 me ys acc) n1 P) = fun b n1 => if b = true then mi2 y n1 fun zs n2 => acc.length + zs.length ≤ sizeLine ∧ lcW (mt2 y) (me y) zs acc n2 fun r n3 => lc2W mt mi2 mt2 me ys r.l n3 P else lc2W mt mi2 mt2 me ys acc n1 P := by
        funext b n1
        cases b <;> rfl
      rw [e2]
      exact z
  exact key xs 0 [] n0 rfl (Nat.zero_le _) h0
theorem lcW_acc {mt : α → M Bool} {me : α → M β} {t : α → Bool} {g : α → β} {P : Lst β → Nat → Prop} : ∀ {xs : List α} {acc : List β} {n0 : Nat}, (∀ a ∈ xs, ∀ n, ∀ Q : Bool → Nat → Prop, Q (t a) n → mt a n Q) → (∀ a ∈ xs, t a = true → ∀ n, ∀ Q : β → Nat → Prop, Q (g a) n → me a n Q) → P ⟨acc ++ (xs.filter t).map g⟩ n0 → lcW mt me xs acc n0 P
  | [], acc, n0, _, _, p => by
    rw [lcW_nil]
    rw [List.filter_nil, List.map_nil, List.append_nil] at p
    exact p
  | x :: xs, acc, n0, ht, h, p => by
    rw [lcW_cons]
    refine ht x List.mem_cons_self n0 _ ?_
    rw [List.filter_cons] at p
    cases b : t x with
    | true =>
      rw [b, if_pos rfl, List.map_cons] at p
      refine if_yes rfl (h x List.mem_cons_self b n0 _ (lcW_acc (fun a ha => ht a (List.mem_cons_of_mem _ ha)) (fun a ha => h a (List.mem_cons_of_mem _ ha)) ?_))
      rw [List.append_assoc]
      exact p
    | false =>
      rw [b, if_neg (by decide)] at p
      exact if_no rfl (lcW_acc (fun a ha => ht a (List.mem_cons_of_mem _ ha)) (fun a ha => h a (List.mem_cons_of_mem _ ha)) p)
/-- both fors without draws -/
theorem lc2W_map {mt : α → M Bool} {mi2 : α → M (List β)} {mt2 : α → β → M Bool} {me : α → β → M γ} {t : α → Bool} {f : α → List β} {t2 : α → β → Bool} {g : α → β → γ} {xs : List α} {n0 : Nat} {N : Nat} {P : Lst γ → Nat → Prop}
    (h1 : ∀ a ∈ xs, ∀ n, ∀ Q : Bool → Nat → Prop, Q (t a) n → mt a n Q) (h2 : ∀ a ∈ xs, t a = true → ∀ n, ∀ Q : List β → Nat → Prop, Q (f a) n → mi2 a n Q) (h3 : ∀ a ∈ xs, t a = true → ∀ b ∈ f a, ∀ n, ∀ Q : Bool → Nat → Prop, Q (t2 a b) n → mt2 a b n Q) (h4 : ∀ a ∈ xs, t a = true → ∀ b ∈ f a, t2 a b = true → ∀ n, ∀ Q : γ → Nat → Prop, Q (g a b) n → me a b n Q)
    (hl : ∀ a ∈ xs, (f a).length ≤ N) (hN : xs.length * N ≤ sizeLine) (p : P ⟨(xs.filter t).flatMap fun a => ((f a).filter (t2 a)).map (g a)⟩ n0) : lc2W mt mi2 mt2 me xs [] n0 P := by
  refine lc2W_inv (fun i acc n => n = n0 ∧ acc.length ≤ i * N ∧ acc = ((xs.take i).filter t).flatMap fun a => ((f a).filter (t2 a)).map (g a)) ⟨rfl, by simp, by simp⟩ ?_ ?_
  · rintro i a acc n e ⟨rfl, hacc, rfl⟩ Q q
    have ha := List.mem_of_getElem? e
    have hi := (List.getElem?_eq_some_iff.mp e).1
    refine h1 a ha _ _ ?_
    have et : (xs.take (i + 1)).filter t = (xs.take i).filter t ++ (if t a = true then [a] else []) := by
      rw [List.take_add_one, e, List.filter_append]
      show _ ++ List.filter t [a] = _
      rw [List.filter_cons]
      rfl
    cases b : t a with
    | true =>
      rw [if_pos rfl]
      refine h2 a ha b _ _ ⟨?_, ?_⟩
      · have h6 := hl a ha
        have h7 : (i + 1) * N ≤ xs.length * N := Nat.mul_le_mul_right _ hi
        rw [Nat.succ_mul] at h7
        omega
      · refine lcW_acc (t := t2 a) (g := g a) (fun b' hb n Q q => h3 a ha b b' hb n Q q) (fun b' hb hb2 n Q q => h4 a ha b b' hb hb2 n Q q) (q _ _ ⟨rfl, ?_, ?_⟩)
        · show List.length (_ ++ _) ≤ _
          rw [List.length_append, List.length_map, Nat.succ_mul]
          have h6 := hl a ha
          have h7 := List.length_filter_le (t2 a) (f a)
          omega
        · rw [et, b, if_pos rfl, List.flatMap_append]
          simp
    | false =>
      rw [if_neg (by decide)]
      refine q _ _ ⟨rfl, by rw [Nat.succ_mul]; omega, ?_⟩
      rw [et, b, if_neg (by decide), List.append_nil]
  · rintro acc n ⟨rfl, _, rfl⟩
    rw [List.take_length]
    exact p
/-- a loop that ends at once or goes on -/
theorem seq_forR {f : α → S → M (Ctl R S S)} {xs : List α} {s0 : S} {n0 : Nat} {k : S → M (Ctl R B S2)} {P : Ctl R B S2 → Nat → Prop} (I : Nat → S → Nat → Prop) (h0 : I 0 s0 n0)
    (h : ∀ i a s n, xs[i]? = some a → I i s n → ∀ Q : Ctl R S S → Nat → Prop, (∀ s' n', I (i + 1) s' n' → Q (.nxt s') n') → (∀ r n', P (.ret r) n' → Q (.ret r) n') → (∀ s' n', k s' n' P → Q (.brk s') n') → f a s n Q) (he : ∀ s n, I xs.length s n → k s n P) : seqW (forW f xs s0) k n0 P := by
  unfold seqW
  exact forW_inv I h0 (fun i a s n e ii Q q1 q2 q3 => h i a s n e ii Q q1 q2 q3) fun s n i => he s n i
/-- what is equal is found equal -/
theorem atI_neg {xs : List α} {k : Nat} (hk : 1 ≤ k) (hl : k ≤ xs.length) : atI xs (-(k : Int)) = xs[xs.length - k]? := by
  unfold atI ixN
  rw [if_neg (by omega), if_pos (by omega)]
  show xs[(-(k : Int) + (xs.length : Int)).toNat]? = _
  rw [show (-(k : Int) + (xs.length : Int)).toNat = xs.length - k by omega]
end
/-! ## data of a kind: its shape, and when two are equal -/
class Shp (α : Type) [Enc α] where
  dp : Nat
  ca : ∀ a : α, (enc a).canLay0 = true
  di : ∀ a : α, (enc a).hasDict = false
  de : ∀ a : α, (enc a).depth ≤ dp
instance : Shp Nat := ⟨0, fun _ => rfl, fun _ => rfl, fun _ => Nat.le_refl _⟩
instance : Shp Int := ⟨0, fun _ => rfl, fun _ => rfl, fun _ => Nat.le_refl _⟩
instance : Shp Bool := ⟨0, fun _ => rfl, fun _ => rfl, fun _ => Nat.le_refl _⟩
instance : Shp Unit := ⟨0, fun _ => rfl, fun _ => rfl, fun _ => Nat.le_refl _⟩
instance {α : Type} [Enc α] [Shp α] : Shp (Option α) := ⟨Shp.dp α, fun a => match a with | none => rfl | some a => Shp.ca a, fun a => match a with | none => rfl | some a => Shp.di a, fun a => match a with | none => Nat.zero_le _ | some a => Shp.de a⟩
theorem lay_all {α : Type} [Enc α] [Shp α] : ∀ xs : List α, PyData.canLayAll0 (xs.map enc) = true ∧ PyData.hasDictAll (xs.map enc) = false ∧ PyData.depthAll (xs.map enc) ≤ Shp.dp α
  | [] => ⟨rfl, rfl, Nat.zero_le _⟩
  | x :: xs => by
    obtain ⟨h1, h2, h3⟩ := lay_all xs
    refine ⟨?_, ?_, ?_⟩
    · show (PyData.canLay0 (enc x) && PyData.canLayAll0 (xs.map enc)) = true
      rw [Shp.ca x, h1]; rfl
    · show (PyData.hasDict (enc x) || PyData.hasDictAll (xs.map enc)) = false
      rw [Shp.di x, h2]; rfl
    · show max (PyData.depth (enc x)) (PyData.depthAll (xs.map enc)) ≤ _
      have := Shp.de x
      omega
instance {α : Type} [Enc α] [Shp α] : Shp (List α) := ⟨Shp.dp α + 1, fun a => (lay_all a).1, fun a => (lay_all a).2.1, fun a => Nat.succ_le_succ (lay_all a).2.2⟩
instance {α : Type} [Enc α] [Shp α] : Shp (Lst α) := ⟨Shp.dp α + 1, fun a => (lay_all a.l).1, fun a => (lay_all a.l).2.1, fun a => Nat.succ_le_succ (lay_all a.l).2.2⟩
instance {α β : Type} [Enc α] [Enc β] [Shp α] [Shp β] : Shp (α × β) := ⟨max (Shp.dp α) (Shp.dp β) + 1, fun a => by
    show (PyData.canLay0 (enc a.1) && (PyData.canLay0 (enc a.2) && true)) = true
    rw [Shp.ca a.1, Shp.ca a.2]; rfl, fun a => by
    show (PyData.hasDict (enc a.1) || (PyData.hasDict (enc a.2) || false)) = false
    rw [Shp.di a.1, Shp.di a.2]; rfl, fun a => by
    show max (PyData.depth (enc a.1)) (max (PyData.depth (enc a.2)) 0) + 1 ≤ _
    have := Shp.de a.1
    have := Shp.de a.2
    omega⟩
instance {α β γ : Type} [Enc α] [Enc β] [Enc γ] [Shp α] [Shp β] [Shp γ] : Shp (T3 α β γ) := ⟨max (Shp.dp α) (max (Shp.dp β) (Shp.dp γ)) + 1, fun a => by
    show (PyData.canLay0 (enc a.a) && (PyData.canLay0 (enc a.b) && (PyData.canLay0 (enc a.c) && true))) = true
    rw [Shp.ca a.a, Shp.ca a.b, Shp.ca a.c]; rfl, fun a => by
    show (PyData.hasDict (enc a.a) || (PyData.hasDict (enc a.b) || (PyData.hasDict (enc a.c) || false))) = false
    rw [Shp.di a.a, Shp.di a.b, Shp.di a.c]; rfl, fun a => by
    show max (PyData.depth (enc a.a)) (max (PyData.depth (enc a.b)) (max (PyData.depth (enc a.c)) 0)) + 1 ≤ _
    have := Shp.de a.a
    have := Shp.de a.b
    have := Shp.de a.c
    omega⟩
instance {α β γ δ : Type} [Enc α] [Enc β] [Enc γ] [Enc δ] [Shp α] [Shp β] [Shp γ] [Shp δ] : Shp (T4 α β γ δ) := ⟨max (Shp.dp α) (max (Shp.dp β) (max (Shp.dp γ) (Shp.dp δ))) + 1, fun a => by
    show (PyData.canLay0 (enc a.a) && (PyData.canLay0 (enc a.b) && (PyData.canLay0 (enc a.c) && (PyData.canLay0 (enc a.d) && true)))) = true
    rw [Shp.ca a.a, Shp.ca a.b, Shp.ca a.c, Shp.ca a.d]; rfl, fun a => by
    show (PyData.hasDict (enc a.a) || (PyData.hasDict (enc a.b) || (PyData.hasDict (enc a.c) || (PyData.hasDict (enc a.d) || false)))) = false
    rw [Shp.di a.a, Shp.di a.b, Shp.di a.c, Shp.di a.d]; rfl, fun a => by
    show max (PyData.depth (enc a.a)) (max (PyData.depth (enc a.b)) (max (PyData.depth (enc a.c)) (max (PyData.depth (enc a.d)) 0))) + 1 ≤ _
    have := Shp.de a.a
    have := Shp.de a.b
    have := Shp.de a.c
    have := Shp.de a.d
    omega⟩
theorem shp {α : Type} [Enc α] [Shp α] (a : α) (h : Shp.dp α ≤ 64 := by decide) : shapeOk (enc a) := by
  refine ⟨?_, Shp.di a⟩
  unfold SeqAt.shaped
  rw [Shp.ca a, Bool.true_and]
  exact decide_eq_true (Nat.le_trans (Shp.de a) h)
/-- equal data, equal things -/
class Eqv (α : Type) [Enc α] : Prop where
  iff : ∀ a b : α, PyData.eqv (enc a) (enc b) = true ↔ a = b
class NoNone (α : Type) [Enc α] : Prop where
  l : ∀ a : α, PyData.eqv .none (enc a) = false
  r : ∀ a : α, PyData.eqv (enc a) .none = false
instance : Eqv Nat := ⟨fun a b => by
  show ((a : Int) == (b : Int)) = true ↔ a = b
  rw [beq_iff_eq]
  omega⟩
instance : Eqv Int := ⟨fun a b => by
  show (a == b) = true ↔ a = b
  rw [beq_iff_eq]⟩
instance : Eqv Bool := ⟨fun a b => by
  show (a == b) = true ↔ a = b
  rw [beq_iff_eq]⟩
instance : NoNone Nat := ⟨fun _ => rfl, fun _ => rfl⟩
instance : NoNone Int := ⟨fun _ => rfl, fun _ => rfl⟩
instance : NoNone Bool := ⟨fun _ => rfl, fun _ => rfl⟩
instance {α : Type} [Enc α] : NoNone (List α) := ⟨fun _ => rfl, fun _ => rfl⟩
instance {α : Type} [Enc α] : NoNone (Lst α) := ⟨fun _ => rfl, fun _ => rfl⟩
instance {α β : Type} [Enc α] [Enc β] : NoNone (α × β) := ⟨fun _ => rfl, fun _ => rfl⟩
instance {α β γ : Type} [Enc α] [Enc β] [Enc γ] : NoNone (T3 α β γ) := ⟨fun _ => rfl, fun _ => rfl⟩
instance {α β γ δ : Type} [Enc α] [Enc β] [Enc γ] [Enc δ] : NoNone (T4 α β γ δ) := ⟨fun _ => rfl, fun _ => rfl⟩
instance {α : Type} [Enc α] [Eqv α] [NoNone α] : Eqv (Option α) := ⟨fun a b => by
  cases a with
  | none =>
    cases b with
    | none => exact ⟨fun _ => rfl, fun _ => rfl⟩
    | some b => exact ⟨fun h => (by rw [show PyData.eqv (enc (none : Option α)) (enc (some b)) = PyData.eqv .none (enc b) from rfl, NoNone.l b] at h; cases h), fun h => nomatch h⟩
  | some a =>
    cases b with
    | none => exact ⟨fun h => (by rw [show PyData.eqv (enc (some a)) (enc (none : Option α)) = PyData.eqv (enc a) .none from rfl, NoNone.r a] at h; cases h), fun h => nomatch h⟩
    | some b => exact (Eqv.iff a b).trans ⟨fun h => by rw [h], fun h => Option.some.inj h⟩⟩
theorem eqv_all {α : Type} [Enc α] [Eqv α] : ∀ xs ys : List α, PyData.eqvAll (xs.map enc) (ys.map enc) = true ↔ xs = ys
  | [], [] => ⟨fun _ => rfl, fun _ => rfl⟩
  | [], y :: ys => ⟨fun h => Bool.noConfusion h, fun h => List.noConfusion rfl (heq_of_eq h)⟩
  | x :: xs, [] => ⟨fun h => Bool.noConfusion h, fun h => List.noConfusion rfl (heq_of_eq h)⟩
  | x :: xs, y :: ys => by
    show (PyData.eqv (enc x) (enc y) && PyData.eqvAll (xs.map enc) (ys.map enc)) = true ↔ _
    rw [Bool.and_eq_true, Eqv.iff, eqv_all xs ys, List.cons.injEq]
instance {α : Type} [Enc α] [Eqv α] : Eqv (List α) := ⟨fun a b => eqv_all a b⟩
instance {α : Type} [Enc α] [Eqv α] : Eqv (Lst α) := ⟨fun a b => (eqv_all a.l b.l).trans ⟨fun h => (by cases a; cases b; exact congrArg Lst.mk h), fun h => by rw [h]⟩⟩
instance {α β : Type} [Enc α] [Enc β] [Eqv α] [Eqv β] : Eqv (α × β) := ⟨fun a b => by
  show (PyData.eqv (enc a.1) (enc b.1) && (PyData.eqv (enc a.2) (enc b.2) && true)) = true ↔ _
  rw [Bool.and_true, Bool.and_eq_true, Eqv.iff, Eqv.iff]
  cases a; cases b
  exact ⟨fun h => (by obtain ⟨h1, h2⟩ := h; dsimp only at h1 h2; rw [h1, h2]), fun h => (by cases h; exact ⟨rfl, rfl⟩)⟩⟩
instance {α β γ : Type} [Enc α] [Enc β] [Enc γ] [Eqv α] [Eqv β] [Eqv γ] : Eqv (T3 α β γ) := ⟨fun a b => by
  show (PyData.eqv (enc a.a) (enc b.a) && (PyData.eqv (enc a.b) (enc b.b) && (PyData.eqv (enc a.c) (enc b.c) && true))) = true ↔ _
  rw [Bool.and_true, Bool.and_eq_true, Bool.and_eq_true, Eqv.iff, Eqv.iff, Eqv.iff]
  cases a; cases b
  exact ⟨fun h => (by obtain ⟨h1, h2, h3⟩ := h; dsimp only at h1 h2 h3; rw [h1, h2, h3]), fun h => (by cases h; exact ⟨rfl, rfl, rfl⟩)⟩⟩
instance {α β γ δ : Type} [Enc α] [Enc β] [Enc γ] [Enc δ] [Eqv α] [Eqv β] [Eqv γ] [Eqv δ] : Eqv (T4 α β γ δ) := ⟨fun a b => by
  show (PyData.eqv (enc a.a) (enc b.a) && (PyData.eqv (enc a.b) (enc b.b) && (PyData.eqv (enc a.c) (enc b.c) && (PyData.eqv (enc a.d) (enc b.d) && true)))) = true ↔ _
  rw [Bool.and_true, Bool.and_eq_true, Bool.and_eq_true, Bool.and_eq_true, Eqv.iff, Eqv.iff, Eqv.iff, Eqv.iff]
  cases a; cases b
  exact ⟨fun h => (by obtain ⟨h1, h2, h3, h4⟩ := h; dsimp only at h1 h2 h3 h4; rw [h1, h2, h3, h4]), fun h => (by cases h; exact ⟨rfl, rfl, rfl, rfl⟩)⟩⟩
theorem eqv_t {α : Type} [Enc α] [Eqv α] {a b : α} (h : a = b) : PyData.eqv (enc a) (enc b) = true := (Eqv.iff a b).mpr h
theorem eqv_f {α : Type} [Enc α] [Eqv α] {a b : α} (h : a ≠ b) : PyData.eqv (enc a) (enc b) = false := by
  cases e : PyData.eqv (enc a) (enc b) with
  | false => rfl
  | true => exact absurd ((Eqv.iff a b).mp e) h
theorem eqv_dec {α : Type} [Enc α] [Eqv α] [DecidableEq α] (a b : α) : PyData.eqv (enc a) (enc b) = decide (a = b) := by
  by_cases h : a = b
  · rw [decide_eq_true h, eqv_t h]
  · rw [decide_eq_false h, eqv_f h]
/-- a comparison of two things -/
theorem eqD_w {α β : Type} [Enc α] [Shp α] [Eqv α] {a b : α} {n : Nat} {k : Bool → M β} {P : β → Nat → Prop} (h : Shp.dp α ≤ 64 := by decide) (p : ∀ x : Bool, (x = true ↔ a = b) → k x n P) : (shapeOk (enc a) ∧ shapeOk (enc b)) ∧ k (PyData.eqv (enc a) (enc b)) n P := ⟨⟨shp a h, shp b h⟩, p _ (Eqv.iff a b)⟩
end Bf
namespace Bf
/-! ### primes -/
structure IsP (p : Nat) : Prop where
  two : 2 ≤ p
  only : ∀ d, d ∣ p → d = 1 ∨ d = p
/-- no number from 2 to n + 1 divides p -/
noncomputable def chk (p : Nat) (n : Nat) : Bool := Nat.rec true (fun n ih => ((Nat.beq (Nat.mod p (Nat.add n 2)) 0).not).and ih) n
theorem chk_no {p : Nat} : ∀ n, chk p n = true → ∀ d, 2 ≤ d → d < n + 2 → p % d ≠ 0
  | 0, _, d, h1, h2 => by omega
  | n + 1, h, d, h1, h2 => by
    have h : ((Nat.beq (Nat.mod p (Nat.add n 2)) 0).not).and (chk p n) = true := h
    have hh := (Bool.and_eq_true _ _).mp h
    by_cases e : d = n + 2
    · subst e
      intro z
      have h3 : Nat.beq (Nat.mod p (Nat.add n 2)) 0 = true := by
        have : Nat.mod p (Nat.add n 2) = 0 := z
        rw [this]
        rfl
      rw [h3] at hh
      exact absurd hh.1 (by decide)
    · exact chk_no n hh.2 d h1 (by omega)
theorem isP_of {p n : Nat} (h2 : 2 ≤ p) (h : p < (n + 2) * (n + 2)) (hn : n + 2 ≤ p) (c : chk p n = true) : IsP p := by
  have small : ∀ d, 2 ≤ d → d < n + 2 → ¬ d ∣ p := fun d hd hl hv => chk_no n c d hd hl (Nat.mod_eq_zero_of_dvd hv)
  refine ⟨h2, fun d hd => ?_⟩
  obtain ⟨e, he⟩ := hd
  have hd0 : 0 < d := Nat.pos_of_ne_zero fun z => by rw [z, Nat.zero_mul] at he; omega
  have he0 : 0 < e := Nat.pos_of_ne_zero fun z => by rw [z, Nat.mul_zero] at he; omega
  by_cases h1 : d = 1
  · exact .inl h1
  by_cases h3 : e = 1
  · rw [h3, Nat.mul_one] at he
    exact .inr he.symm
  exfalso
  rcases Nat.lt_or_ge d (n + 2) with l | l
  · exact small d (by omega) l ⟨e, he⟩
  · rcases Nat.lt_or_ge e (n + 2) with l2 | l2
    · exact small e (by omega) l2 ⟨d, by rw [he, Nat.mul_comm]⟩
    · have := Nat.mul_le_mul l l2
      rw [← he] at this
      omega
theorem ck1 : chk 999999937 31622 = true := by decide +kernel
theorem ck2 : chk 999999893 31622 = true := by decide +kernel
theorem ck3 : chk 65537 256 = true := by decide +kernel
def plist : List Nat := [2, 3, 5, 7, 11, 13, 31, 61, 67, 101, 997, 65537, 999999893, 999999937]
theorem plist_p : ∀ p ∈ plist, IsP p := fun p hp => by
  unfold plist at hp
  simp only [List.mem_cons, List.not_mem_nil, or_false] at hp
  rcases hp with rfl | rfl | rfl | rfl | rfl | rfl | rfl | rfl | rfl | rfl | rfl | rfl | rfl | rfl
  · exact isP_of (n := 0) (by decide) (by decide) (by decide) (by decide +kernel)
  · exact isP_of (n := 0) (by decide) (by decide) (by decide) (by decide +kernel)
  · exact isP_of (n := 1) (by decide) (by decide) (by decide) (by decide +kernel)
  · exact isP_of (n := 1) (by decide) (by decide) (by decide) (by decide +kernel)
  · exact isP_of (n := 2) (by decide) (by decide) (by decide) (by decide +kernel)
  · exact isP_of (n := 2) (by decide) (by decide) (by decide) (by decide +kernel)
  · exact isP_of (n := 4) (by decide) (by decide) (by decide) (by decide +kernel)
  · exact isP_of (n := 6) (by decide) (by decide) (by decide) (by decide +kernel)
  · exact isP_of (n := 7) (by decide) (by decide) (by decide) (by decide +kernel)
  · exact isP_of (n := 9) (by decide) (by decide) (by decide) (by decide +kernel)
  · exact isP_of (n := 30) (by decide) (by decide) (by decide) (by decide +kernel)
  · exact isP_of (n := 256) (by decide) (by decide) (by decide) ck3
  · exact isP_of (n := 31622) (by decide) (by decide) (by decide) ck2
  · exact isP_of (n := 31622) (by decide) (by decide) (by decide) ck1
theorem euclid {p a b : Nat} (hp : IsP p) (h : p ∣ a * b) : p ∣ a ∨ p ∣ b := by
  rcases hp.only _ (Nat.gcd_dvd_left p a) with g | g
  · exact .inr (Nat.Coprime.dvd_of_dvd_mul_left g h)
  · exact .inl (by rw [← g]; exact Nat.gcd_dvd_right p a)
theorem euclidZ {p : Nat} {a b : Int} (hp : IsP p) (h : (p : Int) ∣ a * b) : (p : Int) ∣ a ∨ (p : Int) ∣ b := by
  rw [Int.ofNat_dvd_left, Int.natAbs_mul] at h
  rw [Int.ofNat_dvd_left, Int.ofNat_dvd_left]
  exact euclid hp h
/-! ### Fermat -/
def prd : List Nat → Nat
  | [] => 1
  | a :: l => a * prd l
theorem prd_perm {l m : List Nat} (h : l.Perm m) : prd l = prd m := by
  induction h with
  | nil => rfl
  | cons x _ ih => show x * _ = x * _; rw [ih]
  | swap x y l => show y * (x * _) = x * (y * _); rw [Nat.mul_left_comm]
  | trans _ _ h1 h2 => rw [h1, h2]
theorem prd_map {p a : Nat} : ∀ l : List Nat, prd (l.map fun i => a * i % p) % p = a ^ l.length * prd l % p
  | [] => by simp [prd]
  | x :: l => by
    show (a * x % p) * prd (l.map fun i => a * i % p) % p = a ^ (l.length + 1) * (x * prd l) % p
    rw [Nat.mul_mod, prd_map l, Nat.mod_mod, ← Nat.mul_mod]
    congr 1
    rw [Nat.pow_succ]
    grind
theorem prd_no {p : Nat} (hp : IsP p) : ∀ l : List Nat, (∀ x ∈ l, ¬ p ∣ x) → ¬ p ∣ prd l
  | [], _ => fun z => by
    have h1 : p = 1 := Nat.dvd_one.mp z
    have := hp.two
    omega
  | x :: l, h => fun z => by
    rcases euclid hp z with y | y
    · exact h x List.mem_cons_self y
    · exact prd_no hp l (fun w hw => h w (List.mem_cons_of_mem _ hw)) y
theorem fermat {p a : Nat} (hp : IsP p) (ha : ¬ p ∣ a) : a ^ (p - 1) % p = 1 := by
  have h2 := hp.two
  have hL : ((List.range (p - 1)).map (· + 1)).Nodup := by
    unfold List.Nodup
    rw [List.pairwise_map]
    exact (List.nodup_range (n := p - 1)).imp fun {x y} z e => z (by omega)
  have hmem : ∀ x, x ∈ (List.range (p - 1)).map (· + 1) ↔ 0 < x ∧ x < p := fun x => by
    rw [List.mem_map]
    constructor
    · rintro ⟨y, hy, rfl⟩
      have := List.mem_range.mp hy
      omega
    · rintro ⟨h1, h3⟩
      exact ⟨x - 1, List.mem_range.mpr (by omega), by omega⟩
  generalize hl : (List.range (p - 1)).map (· + 1) = L at *
  have hlen : L.length = p - 1 := by rw [← hl, List.length_map, List.length_range]
  have nodv : ∀ x, 0 < x → x < p → ¬ p ∣ x := fun x h1 h3 z => by
    have := Nat.le_of_dvd h1 z
    omega
  have hM : (L.map fun i => a * i % p).Nodup := by
    unfold List.Nodup
    rw [List.pairwise_map]
    refine List.Pairwise.imp_of_mem (fun {x y} hx hy z e => z ?_) hL
    obtain ⟨x1, x2⟩ := (hmem x).mp hx
    obtain ⟨y1, y2⟩ := (hmem y).mp hy
    have hd : (p : Int) ∣ (a : Int) * ((x : Int) - y) := by
      have e2 : ((a * x % p : Nat) : Int) = ((a * y % p : Nat) : Int) := by rw [e]
      rw [Int.natCast_emod, Int.natCast_emod] at e2
      have := Int.emod_emod_of_dvd
      have h5 := (Int.emod_eq_emod_iff_emod_sub_eq_zero).mp e2
      have h6 := Int.dvd_of_emod_eq_zero h5
      have h7 : ((a * x : Nat) : Int) - ((a * y : Nat) : Int) = (a : Int) * ((x : Int) - y) := by
        rw [Int.natCast_mul, Int.natCast_mul]
        grind
      rw [h7] at h6
      exact h6
    rcases euclidZ hp hd with z1 | z1
    · exact absurd (Int.natCast_dvd_natCast.mp z1) ha
    · obtain ⟨c, hc⟩ := z1
      have : c = 0 := by
        rcases Int.lt_trichotomy c 0 with l | l | l
        · have : (p : Int) * c ≤ (p : Int) * (-1) := Int.mul_le_mul_of_nonneg_left (by omega) (by omega)
          omega
        · exact l
        · have : (p : Int) * 1 ≤ (p : Int) * c := Int.mul_le_mul_of_nonneg_left (by omega) (by omega)
          omega
      rw [this, Int.mul_zero] at hc
      omega
  have hsub : ∀ x ∈ L.map (fun i => a * i % p), x ∈ L := fun x hx => by
    obtain ⟨y, hy, rfl⟩ := List.mem_map.mp hx
    obtain ⟨y1, y2⟩ := (hmem y).mp hy
    rw [hmem]
    refine ⟨Nat.pos_of_ne_zero fun z => ?_, Nat.mod_lt _ (by omega)⟩
    rcases euclid hp (Nat.dvd_of_mod_eq_zero z) with w | w
    · exact ha w
    · exact nodv y y1 y2 w
  have hsup : ∀ x ∈ L, x ∈ L.map (fun i => a * i % p) := fun x hx => by
    apply Classical.byContradiction
    intro z
    have h8 := nodup_le (l := x :: L.map (fun i => a * i % p)) (m := L) (List.nodup_cons.mpr ⟨z, hM⟩) (fun y hy => by
      rcases List.mem_cons.mp hy with rfl | hy
      · exact hx
      · exact hsub y hy)
    rw [List.length_cons, List.length_map] at h8
    omega
  have hperm : (L.map fun i => a * i % p).Perm L := (List.perm_ext_iff_of_nodup hM hL).mpr fun x => ⟨hsub x, hsup x⟩
  have hp1 := prd_map (p := p) (a := a) L
  rw [prd_perm hperm, hlen] at hp1
  have hno := prd_no hp L fun x hx => by
    obtain ⟨x1, x2⟩ := (hmem x).mp hx
    exact nodv x x1 x2
  have hd : (p : Int) ∣ (((a ^ (p - 1) : Nat) : Int) - 1) * (prd L : Int) := by
    have e2 : ((a ^ (p - 1) * prd L % p : Nat) : Int) = ((prd L % p : Nat) : Int) := by rw [hp1]
    rw [Int.natCast_emod, Int.natCast_emod] at e2
    have h6 := Int.dvd_of_emod_eq_zero ((Int.emod_eq_emod_iff_emod_sub_eq_zero).mp e2)
    have h7 : ((a ^ (p - 1) * prd L : Nat) : Int) - (prd L : Int) = (((a ^ (p - 1) : Nat) : Int) - 1) * (prd L : Int) := by
      rw [Int.natCast_mul]
      grind
    rw [h7] at h6
    exact h6
  rcases euclidZ hp hd with z | z
  · have h9 := (Int.emod_eq_emod_iff_emod_sub_eq_zero (m := ((a ^ (p - 1) : Nat) : Int)) (n := (p : Int)) (k := 1)).mpr (Int.emod_eq_zero_of_dvd z)
    rw [← Int.natCast_emod, Int.emod_eq_of_lt (by decide) (by omega)] at h9
    omega
  · exact absurd (Int.natCast_dvd_natCast.mp z) hno
end Bf
namespace Bf
/-! ### rows as polynomials by a prime -/
def evZ : List Int → Int → Int
  | [], _ => 0
  | a :: as, y => a + y * evZ as y
def cz (ns : List Nat) : List Int := ns.map fun (n : Nat) => (n : Int)
theorem ev_cz (x : Nat) : ∀ ns : List Nat, ((ev ns x : Nat) : Int) = evZ (cz ns) x
  | [] => rfl
  | a :: as => by
    show ((a + x * ev as x : Nat) : Int) = (a : Int) + (x : Int) * evZ (cz as) x
    rw [Int.natCast_add, Int.natCast_mul, ev_cz x as]
theorem evZ_app (y c : Int) : ∀ as : List Int, evZ (as ++ [c]) y = evZ as y + c * y ^ as.length
  | [] => by simp [evZ]
  | a :: as => by
    show a + y * evZ (as ++ [c]) y = a + y * evZ as y + c * y ^ (as.length + 1)
    rw [evZ_app y c as, Int.pow_succ]
    grind
theorem evZ_zero (y : Int) (as : List Int) : evZ (as ++ [0]) y = evZ as y := by
  rw [evZ_app]
  grind
def mdN (p : Nat) (z : Int) : Nat := (z % (p : Int)).toNat
theorem mdN_is {p : Nat} (hp : 0 < p) (z : Int) : ((mdN p z : Nat) : Int) = z % (p : Int) := by
  unfold mdN
  have := Int.emod_nonneg z (show (p : Int) ≠ 0 by omega)
  omega
theorem mdN_lt {p : Nat} (hp : 0 < p) (z : Int) : mdN p z < p := by
  have h1 := mdN_is hp z
  have h2 := Int.emod_lt_of_pos z (show (0 : Int) < p by omega)
  omega
theorem mdN_cong {p : Nat} (hp : 0 < p) (z : Int) : (p : Int) ∣ (mdN p z : Int) - z := by
  rw [mdN_is hp z]
  exact ⟨-(z / p), by have := Int.emod_add_mul_ediv z p; grind⟩
def cmb (p : Nat) (c d : Int) (as bs : List Nat) : List Nat := (as.zip bs).map fun ab => mdN p (c * ab.1 + d * ab.2)
theorem cmb_len {p : Nat} {c d : Int} {as bs : List Nat} (h : as.length = bs.length) : (cmb p c d as bs).length = as.length := by
  unfold cmb
  rw [List.length_map, List.length_zip, h, Nat.min_self]
theorem cmb_lt {p : Nat} {c d : Int} {as bs : List Nat} (hp : 0 < p) : ∀ n ∈ cmb p c d as bs, n < p := fun n hn => by
  unfold cmb at hn
  obtain ⟨_, _, rfl⟩ := List.mem_map.mp hn
  exact mdN_lt hp _
theorem cmb_ev {p : Nat} {c d y : Int} (hp : 0 < p) : ∀ {as bs : List Nat}, as.length = bs.length → (p : Int) ∣ evZ (cz (cmb p c d as bs)) y - (c * evZ (cz as) y + d * evZ (cz bs) y)
  | [], [], _ => ⟨0, by simp [cmb, cz, evZ]⟩
  | [], _ :: _, h => by cases h
  | _ :: _, [], h => by cases h
  | a :: as, b :: bs, h => by
    obtain ⟨u, hu⟩ := cmb_ev (c := c) (d := d) (y := y) hp (as := as) (bs := bs) (Nat.succ.inj h)
    obtain ⟨v, hv⟩ := mdN_cong hp (c * a + d * b)
    refine ⟨v + y * u, ?_⟩
    show ((mdN p (c * a + d * b) : Nat) : Int) + y * evZ (cz (cmb p c d as bs)) y - (c * ((a : Int) + y * evZ (cz as) y) + d * ((b : Int) + y * evZ (cz bs) y)) = p * (v + y * u)
    grind
theorem dvd_of {p : Int} {a b : Int} (h : p ∣ a - b) : p ∣ a ↔ p ∣ b := by
  constructor
  · rintro ⟨u, hu⟩
    obtain ⟨v, hv⟩ := h
    exact ⟨u - v, by grind⟩
  · rintro ⟨u, hu⟩
    obtain ⟨v, hv⟩ := h
    exact ⟨u + v, by grind⟩
theorem dvd_tr {p a b c : Int} (h1 : p ∣ a - b) (h2 : p ∣ b - c) : p ∣ a - c := by
  obtain ⟨u, hu⟩ := h1
  obtain ⟨v, hv⟩ := h2
  exact ⟨u + v, by grind⟩
def wrF (p : Nat) (zs : List Nat) (x : Nat) : List Nat := cmb p 1 (-(x : Int)) (0 :: zs) (zs ++ [0])
theorem wr_len {p : Nat} {zs : List Nat} {x : Nat} : (wrF p zs x).length = zs.length + 1 := by
  unfold wrF
  rw [cmb_len (by simp)]
  rfl
theorem wr_ev {p : Nat} {zs : List Nat} {x : Nat} (hp : 0 < p) (y : Int) : (p : Int) ∣ evZ (cz (wrF p zs x)) y - (y - x) * evZ (cz zs) y := by
  unfold wrF
  have h := cmb_ev (p := p) (c := 1) (d := -(x : Int)) (y := y) hp (as := 0 :: zs) (bs := zs ++ [0]) (by simp)
  have e1 : evZ (cz (0 :: zs)) y = y * evZ (cz zs) y := by
    show ((0 : Nat) : Int) + y * evZ (cz zs) y = _
    grind
  have e2 : evZ (cz (zs ++ [0])) y = evZ (cz zs) y := by
    have : cz (zs ++ [0]) = cz zs ++ [0] := by simp [cz]
    rw [this, evZ_zero]
  rw [e1, e2] at h
  have e3 : (1 : Int) * (y * evZ (cz zs) y) + -(x : Int) * evZ (cz zs) y = (y - x) * evZ (cz zs) y := by grind
  rw [e3] at h
  exact h
/-- the rows behind some pairs -/
structure Thr (p : Nat) (ps : List (Nat × Nat)) (row zs : List Nat) : Prop where
  len : row.length = ps.length
  lenz : zs.length = ps.length + 1
  lt : ∀ n ∈ row, n < p
  ltz : ∀ n ∈ zs, n < p
  at_ : ∀ xv ∈ ps, (p : Int) ∣ evZ (cz row) xv.1 - xv.2
  zero : ∀ xv ∈ ps, (p : Int) ∣ evZ (cz zs) xv.1
  only : ∀ y : Int, (p : Int) ∣ evZ (cz zs) y → ∃ xv ∈ ps, (p : Int) ∣ y - xv.1
theorem thr_nil {p : Nat} (hp : IsP p) : Thr p [] [] [1] where
  len := rfl
  lenz := rfl
  lt := fun _ h => absurd h List.not_mem_nil
  ltz := fun n h => by
    rw [List.mem_singleton.mp h]
    exact hp.two
  at_ := fun _ h => absurd h List.not_mem_nil
  zero := fun _ h => absurd h List.not_mem_nil
  only := fun y h => by
    exfalso
    have e : evZ (cz [1]) y = 1 := by
      show ((1 : Nat) : Int) + y * 0 = 1
      grind
    rw [e] at h
    have := Int.le_of_dvd (by decide) h
    have := hp.two
    omega
def tgF (p : Nat) (row zs : List Nat) (t : Int) : List Nat := cmb p 1 t (row ++ [0]) zs
theorem thr_step {p : Nat} {ps : List (Nat × Nat)} {row zs : List Nat} {x v : Nat} {t : Int} (hp : IsP p) (h : Thr p ps row zs) (ht : (p : Int) ∣ evZ (cz row) x + t * evZ (cz zs) x - v) : Thr p (ps ++ [(x, v)]) (tgF p row zs t) (wrF p zs x) := by
  have hp0 : 0 < p := by have := hp.two; omega
  have hl : (row ++ [0]).length = zs.length := by rw [List.length_append, h.len, h.lenz]; rfl
  have key : ∀ y : Int, (p : Int) ∣ evZ (cz (tgF p row zs t)) y - (evZ (cz row) y + t * evZ (cz zs) y) := fun y => by
    have := cmb_ev (p := p) (c := 1) (d := t) (y := y) hp0 hl
    have e2 : evZ (cz (row ++ [0])) y = evZ (cz row) y := by
      have : cz (row ++ [0]) = cz row ++ [0] := by simp [cz]
      rw [this, evZ_zero]
    rw [e2, Int.one_mul] at this
    exact this
  refine ⟨?_, ?_, cmb_lt hp0, cmb_lt hp0, fun xv hx => ?_, fun xv hx => ?_, fun y hy => ?_⟩
  · unfold tgF
    rw [cmb_len hl, List.length_append, List.length_append, h.len]
    rfl
  · rw [wr_len, h.lenz, List.length_append]
    rfl
  · rcases List.mem_append.mp hx with hx | hx
    · refine dvd_tr (key xv.1) ?_
      obtain ⟨u, hu⟩ := h.at_ xv hx
      obtain ⟨w, hw⟩ := h.zero xv hx
      exact ⟨u + t * w, by grind⟩
    · rw [List.mem_singleton.mp hx]
      exact dvd_tr (key x) ht
  · rcases List.mem_append.mp hx with hx | hx
    · rw [dvd_of (wr_ev hp0 xv.1)]
      obtain ⟨w, hw⟩ := h.zero xv hx
      exact ⟨(xv.1 - x) * w, by grind⟩
    · rw [List.mem_singleton.mp hx, dvd_of (wr_ev hp0 x)]
      exact ⟨0, by grind⟩
  · rw [dvd_of (wr_ev hp0 y)] at hy
    rcases euclidZ hp hy with z | z
    · exact ⟨(x, v), List.mem_append_right _ List.mem_cons_self, z⟩
    · obtain ⟨xv, h1, h2⟩ := h.only y z
      exact ⟨xv, List.mem_append_left _ h1, h2⟩
theorem inv_is {p z : Nat} (hp : IsP p) (hz : ¬ p ∣ z) : (p : Int) ∣ (z : Int) * ((z ^ (p - 2) % p : Nat) : Int) - 1 := by
  have h := fermat hp hz
  have h2 := hp.two
  have e : z * z ^ (p - 2) = z ^ (p - 1) := by
    rw [Nat.mul_comm, ← Nat.pow_succ]
    congr 1
    omega
  have e1 : (z * (z ^ (p - 2) % p)) % p = 1 := by
    rw [Nat.mul_mod, Nat.mod_mod, ← Nat.mul_mod, e]
    exact h
  refine ⟨((z * (z ^ (p - 2) % p) / p : Nat) : Int), ?_⟩
  have h4 := Nat.div_add_mod (z * (z ^ (p - 2) % p)) p
  rw [e1] at h4
  have h5 : ((p * (z * (z ^ (p - 2) % p) / p) + 1 : Nat) : Int) = ((z * (z ^ (p - 2) % p) : Nat) : Int) := by rw [h4]
  rw [Int.natCast_add, Int.natCast_mul, Int.natCast_mul] at h5
  generalize ((z ^ (p - 2) % p : Nat) : Int) = A at *
  generalize ((z * (z ^ (p - 2) % p) / p : Nat) : Int) = B at *
  have h6 : ((1 : Nat) : Int) = 1 := rfl
  rw [h6] at h5
  omega
theorem mod_cong {p a : Nat} : (p : Int) ∣ ((a % p : Nat) : Int) - (a : Int) := by
  refine ⟨-((a / p : Nat) : Int), ?_⟩
  have h := Nat.div_add_mod a p
  have h5 : ((p * (a / p) + a % p : Nat) : Int) = (a : Int) := by rw [h]
  rw [Int.natCast_add, Int.natCast_mul] at h5
  grind
/-- the step as the program does it -/
theorem thr_next {p : Nat} {ps : List (Nat × Nat)} {row zs : List Nat} {x v : Nat} (hp : IsP p) (h : Thr p ps row zs) (hx : ∀ xv ∈ ps, ¬ (p : Int) ∣ (x : Int) - xv.1) :
    ¬ p ∣ ev zs x % p ∧ Thr p (ps ++ [(x, v)]) (tgF p row zs (((v : Int) - ((ev row x % p : Nat) : Int)) * (((ev zs x % p) ^ (p - 2) % p : Nat) : Int))) (wrF p zs x) := by
  have hz : ¬ p ∣ ev zs x % p := fun z => by
    have h1 : p ∣ ev zs x := (Nat.dvd_mod_iff (Nat.dvd_refl p)).mp z
    have h2 : (p : Int) ∣ evZ (cz zs) x := by
      rw [← ev_cz]
      exact Int.natCast_dvd_natCast.mpr h1
    obtain ⟨xv, h3, h4⟩ := h.only x h2
    exact hx xv h3 h4
  refine ⟨hz, thr_step hp h ?_⟩
  obtain ⟨a, ha⟩ := inv_is hp hz
  obtain ⟨b, hb⟩ := mod_cong (p := p) (a := ev row x)
  obtain ⟨c, hc⟩ := mod_cong (p := p) (a := ev zs x)
  rw [ev_cz] at hb hc
  generalize (((ev zs x % p) ^ (p - 2) % p : Nat) : Int) = I at *
  generalize ((ev zs x % p : Nat) : Int) = Z at *
  generalize ((ev row x % p : Nat) : Int) = R at *
  generalize evZ (cz row) x = ER at *
  generalize evZ (cz zs) x = EZ at *
  refine ⟨-b + (v - R) * a - (v - R) * I * c, ?_⟩
  grind
/-! ### rows are told by their values -/
def qt : List Int → Int → List Int
  | [], _ => []
  | [_], _ => []
  | _ :: d :: ds, x => evZ (d :: ds) x :: qt (d :: ds) x
theorem qt_len (x : Int) : ∀ ds : List Int, (qt ds x).length = ds.length - 1
  | [] => rfl
  | [_] => rfl
  | _ :: d :: ds => by
    show (qt (d :: ds) x).length + 1 = ds.length + 1 + 1 - 1
    rw [qt_len x (d :: ds)]
    simp
theorem qt_ev (x y : Int) : ∀ ds : List Int, evZ ds y - evZ ds x = (y - x) * evZ (qt ds x) y
  | [] => by simp [evZ, qt]
  | [c] => by simp [evZ, qt]
  | c :: d :: ds => by
    have ih := qt_ev x y (d :: ds)
    show c + y * evZ (d :: ds) y - (c + x * evZ (d :: ds) x) = (y - x) * (evZ (d :: ds) x + y * evZ (qt (d :: ds) x) y)
    grind
theorem qt_zero {p x : Int} : ∀ ds : List Int, (∀ c ∈ qt ds x, p ∣ c) → p ∣ evZ ds x → ∀ c ∈ ds, p ∣ c
  | [], _, _ => fun c h => absurd h List.not_mem_nil
  | [c], _, h => fun e he => by
    rw [List.mem_singleton.mp he]
    have : evZ [c] x = c := by show c + x * 0 = c; grind
    rw [this] at h
    exact h
  | c :: d :: ds, hq, h => fun e he => by
    have h1 : p ∣ evZ (d :: ds) x := hq _ List.mem_cons_self
    have ih := qt_zero (d :: ds) (fun z hz => hq z (List.mem_cons_of_mem _ hz)) h1
    rcases List.mem_cons.mp he with rfl | he
    · obtain ⟨u, hu⟩ := h
      obtain ⟨w, hw⟩ := h1
      have hu : e + x * evZ (d :: ds) x = p * u := hu
      exact ⟨u - x * w, by grind⟩
    · exact ih e he
theorem roots_zero {p : Nat} (hp : IsP p) : ∀ (xs : List Nat) (ds : List Int), ds.length = xs.length → xs.Pairwise (fun (a b : Nat) => ¬ (p : Int) ∣ (b : Int) - (a : Int)) → (∀ x ∈ xs, (p : Int) ∣ evZ ds x) → ∀ c ∈ ds, (p : Int) ∣ c
  | [], ds, hl, _, _ => fun c hc => by
    rw [List.eq_nil_of_length_eq_zero hl] at hc
    cases hc
  | x :: xs, ds, hl, hd, hx => by
    have hd' := List.pairwise_cons.mp hd
    refine qt_zero (x := x) ds (roots_zero hp xs (qt ds x) (by rw [qt_len, hl]; rfl) hd'.2 fun y hy => ?_) (hx x List.mem_cons_self)
    obtain ⟨u, hu⟩ := hx x List.mem_cons_self
    obtain ⟨w, hw⟩ := hx y (List.mem_cons_of_mem _ hy)
    have h := qt_ev x y ds
    have h1 : (p : Int) ∣ ((y : Int) - x) * evZ (qt ds x) y := ⟨w - u, by grind⟩
    rcases euclidZ hp h1 with z | z
    · exact absurd z (hd'.1 y hy)
    · exact z
def sbZ : List Nat → List Nat → List Int
  | a :: as, b :: bs => ((a : Int) - b) :: sbZ as bs
  | _, _ => []
theorem sb_len : ∀ as bs : List Nat, as.length = bs.length → (sbZ as bs).length = as.length
  | [], [], _ => rfl
  | [], _ :: _, h => by cases h
  | _ :: _, [], h => by cases h
  | a :: as, b :: bs, h => by
    show (sbZ as bs).length + 1 = as.length + 1
    rw [sb_len as bs (Nat.succ.inj h)]
theorem sb_ev (y : Int) : ∀ as bs : List Nat, as.length = bs.length → evZ (sbZ as bs) y = evZ (cz as) y - evZ (cz bs) y
  | [], [], _ => rfl
  | [], _ :: _, h => by cases h
  | _ :: _, [], h => by cases h
  | a :: as, b :: bs, h => by
    have ih := sb_ev y as bs (Nat.succ.inj h)
    show ((a : Int) - b) + y * evZ (sbZ as bs) y = ((a : Int) + y * evZ (cz as) y) - ((b : Int) + y * evZ (cz bs) y)
    grind
theorem sb_eq {p : Nat} : ∀ as bs : List Nat, as.length = bs.length → (∀ n ∈ as, n < p) → (∀ n ∈ bs, n < p) → (∀ c ∈ sbZ as bs, (p : Int) ∣ c) → as = bs
  | [], [], _, _, _, _ => rfl
  | [], _ :: _, h, _, _, _ => by cases h
  | _ :: _, [], h, _, _, _ => by cases h
  | a :: as, b :: bs, h, ha, hb, hc => by
    have ih := sb_eq as bs (Nat.succ.inj h) (fun n hn => ha n (List.mem_cons_of_mem _ hn)) (fun n hn => hb n (List.mem_cons_of_mem _ hn)) (fun c hc' => hc c (List.mem_cons_of_mem _ hc'))
    obtain ⟨u, hu⟩ := hc _ List.mem_cons_self
    have h1 := ha a List.mem_cons_self
    have h2 := hb b List.mem_cons_self
    have : u = 0 := by
      rcases Int.lt_trichotomy u 0 with l | l | l
      · have : (p : Int) * u ≤ (p : Int) * (-1) := Int.mul_le_mul_of_nonneg_left (by omega) (by omega)
        omega
      · exact l
      · have : (p : Int) * 1 ≤ (p : Int) * u := Int.mul_le_mul_of_nonneg_left (by omega) (by omega)
        omega
    rw [this, Int.mul_zero] at hu
    rw [ih, show a = b by omega]
theorem row_one {p : Nat} {as bs xs : List Nat} (hp : IsP p) (hl : as.length = xs.length) (hl2 : bs.length = xs.length) (ha : ∀ n ∈ as, n < p) (hb : ∀ n ∈ bs, n < p) (hd : xs.Pairwise (fun (a b : Nat) => ¬ (p : Int) ∣ (b : Int) - (a : Int))) (h : ∀ x ∈ xs, (p : Int) ∣ evZ (cz as) x - evZ (cz bs) x) : as = bs := by
  have e : as.length = bs.length := by omega
  refine sb_eq as bs e ha hb (roots_zero hp xs (sbZ as bs) (by rw [sb_len as bs e, hl]) hd fun x hx => ?_)
  rw [sb_ev _ as bs e]
  exact h x hx
end Bf
namespace Bf
/-! ### rows that come to nought at some numbers -/
def pdZ : List Nat → Int → Int
  | [], _ => 1
  | x :: xs, y => (y - x) * pdZ xs y
theorem pdZ_app (y : Int) : ∀ as bs : List Nat, pdZ (as ++ bs) y = pdZ as y * pdZ bs y
  | [], bs => by simp [pdZ]
  | a :: as, bs => by
    show (y - a) * pdZ (as ++ bs) y = (y - a) * pdZ as y * pdZ bs y
    rw [pdZ_app y as bs]
    grind
theorem pdZ_rev (y : Int) : ∀ as : List Nat, pdZ as.reverse y = pdZ as y
  | [] => rfl
  | a :: as => by
    rw [List.reverse_cons, pdZ_app, pdZ_rev y as]
    show pdZ as y * ((y - a) * 1) = (y - a) * pdZ as y
    grind
theorem pdZ_zero {p : Nat} (hp : IsP p) {y : Int} : ∀ {xs : List Nat}, (p : Int) ∣ pdZ xs y → ∃ x ∈ xs, (p : Int) ∣ y - x
  | [], h => by
    exfalso
    have h : (p : Int) ∣ 1 := h
    have := Int.le_of_dvd (by decide) h
    have := hp.two
    omega
  | x :: xs, h => by
    rcases euclidZ hp h with z | z
    · exact ⟨x, List.mem_cons_self, z⟩
    · obtain ⟨x', h1, h2⟩ := pdZ_zero hp z
      exact ⟨x', List.mem_cons_of_mem _ h1, h2⟩
theorem pdZ_of {p : Int} {y : Int} {x : Nat} : ∀ {xs : List Nat}, x ∈ xs → p ∣ y - x → p ∣ pdZ xs y
  | x' :: xs, h, d => by
    rcases List.mem_cons.mp h with rfl | h
    · obtain ⟨c, hc⟩ := d
      exact ⟨c * pdZ xs y, by show (y - x) * pdZ xs y = _; grind⟩
    · obtain ⟨c, hc⟩ := pdZ_of h d
      exact ⟨(y - x') * c, by show (y - x') * pdZ xs y = _; grind⟩
/-- a row that is these numbers' product -/
structure Van (p : Nat) (xs row : List Nat) : Prop where
  len : row.length = xs.length + 1
  lt : ∀ n ∈ row, n < p
  ev : ∀ y : Int, (p : Int) ∣ evZ (cz row) y - pdZ xs y
theorem van_nil {p : Nat} (hp : IsP p) : Van p [] [1] where
  len := rfl
  lt := fun n h => by rw [List.mem_singleton.mp h]; exact hp.two
  ev := fun y => ⟨0, by show ((1 : Nat) : Int) + y * 0 - 1 = p * 0; grind⟩
theorem van_wr {p x : Nat} {xs row : List Nat} (hp : IsP p) (h : Van p xs row) : Van p (xs ++ [x]) (wrF p row x) := by
  have hp0 : 0 < p := by have := hp.two; omega
  refine ⟨by rw [wr_len, h.len, List.length_append]; rfl, cmb_lt hp0, fun y => ?_⟩
  refine dvd_tr (wr_ev hp0 y) ?_
  rw [pdZ_app]
  obtain ⟨u, hu⟩ := h.ev y
  exact ⟨(y - x) * u, by show (y - x) * evZ (cz row) y - pdZ xs y * ((y - x) * 1) = _; grind⟩
theorem range_far {p n : Nat} (h : n ≤ p) : (List.range n).Pairwise (fun (a b : Nat) => ¬ (p : Int) ∣ (b : Int) - (a : Int)) := by
  refine List.Pairwise.imp_of_mem (fun {a b} ha hb hab z => ?_) (List.pairwise_lt_range (n := n))
  have h1 := List.mem_range.mp ha
  have h2 := List.mem_range.mp hb
  have := Int.le_of_dvd (by omega) z
  omega
/-- rows alike at all numbers, fewer numbers than the prime -/
theorem row_all {p : Nat} {as bs : List Nat} (hp : IsP p) (hl : as.length = bs.length) (hn : as.length ≤ p) (ha : ∀ n ∈ as, n < p) (hb : ∀ n ∈ bs, n < p) (h : ∀ y : Nat, (p : Int) ∣ evZ (cz as) y - evZ (cz bs) y) : as = bs :=
  row_one (xs := List.range as.length) hp (by rw [List.length_range]) (by rw [List.length_range, hl]) ha hb (range_far hn) fun x _ => h x
theorem dvd_sy {p a b : Int} (h : p ∣ a - b) : p ∣ b - a := by
  obtain ⟨u, hu⟩ := h
  exact ⟨-u, by grind⟩
theorem van_one {p : Nat} {xs ys as bs : List Nat} (hp : IsP p) (ha : Van p xs as) (hb : Van p ys bs) (hn : xs.length + 1 ≤ p) (hl : xs.length = ys.length) (e : ∀ y : Int, pdZ xs y = pdZ ys y) : as = bs := by
  refine row_all hp (by rw [ha.len, hb.len, hl]) (by rw [ha.len]; exact hn) ha.lt hb.lt fun y => ?_
  have h1 := ha.ev y
  have h2 := hb.ev y
  rw [e] at h1
  exact dvd_tr h1 (dvd_sy h2)
/-! ### products -/
theorem evZ_set (y c : Int) : ∀ (l : List Int) (i : Nat) (a : Int), l[i]? = some a → evZ (l.set i c) y = evZ l y + (c - a) * y ^ i
  | [], i, a, h => by cases h
  | b :: l, 0, a, h => by
    have : b = a := Option.some.inj h
    subst this
    show c + y * evZ l y = b + y * evZ l y + (c - b) * y ^ 0
    rw [Int.pow_zero]
    grind
  | b :: l, i + 1, a, h => by
    show b + y * evZ (l.set i c) y = b + y * evZ l y + (c - a) * y ^ (i + 1)
    rw [evZ_set y c l i a h, Int.pow_succ]
    grind
theorem cz_set (l : List Nat) (i c : Nat) : cz (l.set i c) = (cz l).set i (c : Int) := by
  unfold cz
  rw [List.map_set]
theorem cz_at {l : List Nat} {i a : Nat} (h : l[i]? = some a) : (cz l)[i]? = some (a : Int) := by
  unfold cz
  rw [List.getElem?_map, h]
  rfl
theorem evZ_take {l : List Nat} {i a : Nat} (y : Int) (h : l[i]? = some a) : evZ (cz (l.take (i + 1))) y = evZ (cz (l.take i)) y + a * y ^ i := by
  have hi := (List.getElem?_eq_some_iff.mp h).1
  rw [List.take_add_one, h]
  have : cz (l.take i ++ [a]) = cz (l.take i) ++ [(a : Int)] := by simp [cz]
  show evZ (cz (l.take i ++ [a])) y = _
  rw [this, evZ_app]
  congr 3
  unfold cz
  rw [List.length_map, List.length_take]
  omega
theorem evZ_rep (y : Int) : ∀ n : Nat, evZ (cz (List.replicate n 0)) y = 0
  | 0 => rfl
  | n + 1 => by
    show ((0 : Nat) : Int) + y * evZ (cz (List.replicate n 0)) y = 0
    rw [evZ_rep y n]
    grind
/-- a product under way: i numbers of the first row done, j of the second -/
structure Prd (p : Nat) (as bs : List Nat) (i j : Nat) (L : List Nat) : Prop where
  len : L.length = as.length + bs.length - 1
  lt : ∀ n ∈ L, n < p
  ev : ∀ y : Int, (p : Int) ∣ evZ (cz L) y - (evZ (cz (as.take i)) y * evZ (cz bs) y + (match as[i]? with | some a => (a : Int) * y ^ i * evZ (cz (bs.take j)) y | none => 0))
theorem prd_0 {p : Nat} {as bs : List Nat} (hp : 0 < p) : Prd p as bs 0 0 (List.replicate (as.length + bs.length - 1) 0) := by
  refine ⟨List.length_replicate, fun n hn => by rw [List.eq_of_mem_replicate hn]; exact hp, fun y => ?_⟩
  rw [evZ_rep]
  refine ⟨0, ?_⟩
  cases as[0]? with
  | none => show 0 - (0 * evZ (cz bs) y + 0) = _; grind
  | some a => show 0 - (0 * evZ (cz bs) y + (a : Int) * y ^ 0 * 0) = _; grind
theorem prd_row {p i : Nat} {as bs L : List Nat} {a : Nat} (ha : as[i]? = some a) (h : Prd p as bs i bs.length L) : Prd p as bs (i + 1) 0 L := by
  refine ⟨h.len, h.lt, fun y => ?_⟩
  have h1 := h.ev y
  rw [ha, List.take_length] at h1
  rw [evZ_take y ha]
  have e : (evZ (cz (as.take i)) y + (a : Int) * y ^ i) * evZ (cz bs) y + (match as[i + 1]? with | some a => (a : Int) * y ^ (i + 1) * evZ (cz (bs.take 0)) y | none => 0) = evZ (cz (as.take i)) y * evZ (cz bs) y + (a : Int) * y ^ i * evZ (cz bs) y := by
    have z : evZ (cz (bs.take 0)) y = 0 := rfl
    cases as[i + 1]? with
    | none => show (_ + _) * _ + 0 = _; grind
    | some c => show (_ + _) * _ + (c : Int) * y ^ (i + 1) * evZ (cz (bs.take 0)) y = _; rw [z]; grind
  rw [e]
  exact h1
theorem prd_put {p i j : Nat} {as bs L : List Nat} {a b c : Nat} (hp : 0 < p) (ha : as[i]? = some a) (hb : bs[j]? = some b) (hc : L[i + j]? = some c) (h : Prd p as bs i j L) : Prd p as bs i (j + 1) (L.set (i + j) ((c + a * b) % p)) := by
  refine ⟨by rw [List.length_set]; exact h.len, fun n hn => ?_, fun y => ?_⟩
  · rcases List.mem_or_eq_of_mem_set hn with z | z
    · exact h.lt n z
    · rw [z]
      exact Nat.mod_lt _ hp
  · have h1 := h.ev y
    rw [ha] at h1 ⊢
    rw [cz_set, evZ_set y _ _ _ _ (cz_at hc), evZ_take y hb]
    obtain ⟨u, hu⟩ := h1
    obtain ⟨v, hv⟩ := mod_cong (p := p) (a := c + a * b)
    rw [Int.natCast_add, Int.natCast_mul] at hv
    have hpw : y ^ (i + j) = y ^ i * y ^ j := Int.pow_add y i j
    refine ⟨u + v * y ^ (i + j), ?_⟩
    rw [hpw]
    generalize ((c + a * b) % p : Nat) = M at *
    grind
/-- a product -/
structure Pro (p : Nat) (as bs L : List Nat) : Prop where
  len : L.length = as.length + bs.length - 1
  lt : ∀ n ∈ L, n < p
  ev : ∀ y : Int, (p : Int) ∣ evZ (cz L) y - evZ (cz as) y * evZ (cz bs) y
theorem prd_end {p : Nat} {as bs L : List Nat} (h : Prd p as bs as.length 0 L) : Pro p as bs L := by
  refine ⟨h.len, h.lt, fun y => ?_⟩
  have h1 := h.ev y
  rw [List.getElem?_eq_none (Nat.le_refl _), List.take_length] at h1
  simpa using h1
theorem van_pro {p x : Nat} {xs row L : List Nat} (hp : IsP p) (h : Van p xs row) (hL : Pro p row [mdN p (0 - (x : Int)), 1] L) : Van p (xs ++ [x]) L := by
  have hp0 : 0 < p := by have := hp.two; omega
  refine ⟨by rw [hL.len, h.len, List.length_append]; rfl, hL.lt, fun y => ?_⟩
  refine dvd_tr (hL.ev y) ?_
  obtain ⟨u, hu⟩ := h.ev y
  obtain ⟨v, hv⟩ := mdN_cong hp0 (0 - (x : Int))
  have e : evZ (cz [mdN p (0 - (x : Int)), 1]) y = (mdN p (0 - (x : Int)) : Int) + y := by
    show ((mdN p (0 - (x : Int)) : Nat) : Int) + y * (((1 : Nat) : Int) + y * 0) = _
    grind
  rw [e, pdZ_app]
  refine ⟨u * (y - x) + evZ (cz row) y * v, ?_⟩
  show evZ (cz row) y * ((mdN p (0 - (x : Int)) : Int) + y) - pdZ xs y * ((y - x) * 1) = _
  generalize ((mdN p (0 - (x : Int)) : Nat) : Int) = M at *
  grind
theorem van_two {p : Nat} {xs ys as bs L : List Nat} (ha : Van p xs as) (hb : Van p ys bs) (hL : Pro p as bs L) : Van p (xs ++ ys) L := by
  refine ⟨by rw [hL.len, ha.len, hb.len, List.length_append]; omega, hL.lt, fun y => ?_⟩
  refine dvd_tr (hL.ev y) ?_
  obtain ⟨u, hu⟩ := ha.ev y
  obtain ⟨v, hv⟩ := hb.ev y
  rw [pdZ_app]
  exact ⟨u * evZ (cz bs) y + pdZ xs y * v, by grind⟩
end Bf
namespace Bf
open PySem PySem.Spec PyProof.Rows L2 LamX NdefX
theorem hab_w {h k c : Nat} {P : Bool → Nat → Prop} (p : P (h.testBit k) c) : habW h k c P := by
  rw [habW_eq]
  show P (decide (h / 2 ^ k &&& 1 = 1)) c
  have e : decide (h / 2 ^ k &&& 1 = 1) = h.testBit k := by
    rw [Nat.and_one_is_mod, Nat.testBit_eq_decide_div_mod_eq]
  rw [e]
  exact p
theorem acr_w {h k c : Nat} {P : Nat → Nat → Prop} (hk : k ≤ 1000) (p : P (h ^^^ 2 ^ k) c) : acrW h k c P := by
  rw [acrW_eq]
  exact ⟨⟨rfl, by omega⟩, p⟩
theorem crs_w {q h j s c : Nat} {P : List Nat → Nat → Prop} (hq : 0 < q) (hq6 : q ≤ 60) (hh : h < 2 ^ q) (hs : s < 2 ^ q) (hj : j < q) (p : P (cl q (h ^^^ s) j) c) : crsW q h j s c P := by
  rw [crsW_eq]
  have hd : h ^^^ s < 2 ^ q := Nat.xor_lt_two_pow hh hs
  refine hab_w ?_
  cases b : (h ^^^ s).testBit j with
  | true =>
    refine seq_yes rfl ⟨⟨hq, hq6, hd⟩, ?_⟩
    rw [cl_in hj b] at p
    exact p
  | false =>
    refine seq_no rfl ?_
    have hl := rb_len q (h ^^^ s) j
    have h24 : sizeLine = 16777216 := rfl
    refine ⟨by show 1 ≤ sizeLine; decide, ⟨hq, hq6, hd⟩, by show 1 + _ ≤ sizeLine; omega, by show 1 ≤ sizeLine; decide, ?_, ?_⟩
    · rw [List.length_append]
      show 1 + _ + 1 ≤ sizeLine
      omega
    · rw [cl_out hj b] at p
      exact p
/-- the last one of a way's bits -/
def lstK (q d j : Nat) : Nat := (cl q d j).getLast (cl_ne q d j)
theorem lstK_lt {q d j : Nat} (hj : j < q) : lstK q d j < q := cl_lt hj (List.getLast_mem _)
theorem tel_w {q h j s c : Nat} {P : Nat → Nat → Prop} (hq : 0 < q) (hq6 : q ≤ 60) (hh : h < 2 ^ q) (hs : s < 2 ^ q) (hj : j < q) (p : P (h ^^^ 2 ^ lstK q (h ^^^ s) j) c) : telW q h j s c P := by
  rw [telW_eq]
  refine crs_w hq hq6 hh hs hj ⟨lstK q (h ^^^ s) j, ?_, acr_w (by have := lstK_lt (d := h ^^^ s) hj; omega) p⟩
  have hne := cl_ne q (h ^^^ s) j
  have hl : 1 ≤ (cl q (h ^^^ s) j).length := List.length_pos_iff.mpr hne
  show atI _ (-((1 : Nat) : Int)) = _
  rw [atI_neg (Nat.le_refl 1) hl]
  unfold lstK
  rw [List.getLast_eq_getElem, List.getElem?_eq_getElem (by omega)]

theorem tur_w {q e j c : Nat} {P : Nat → Nat → Prop} (hj : j < q) (hq6 : q ≤ 60) (he : e < 2 ^ q) (p : P (trn q e j) c) : turW q e j c P := by
  rw [turW_eq]
  refine ⟨by omega, ?_⟩
  have hp : e &&& (2 ^ j - 1) < 2 ^ 64 := Nat.lt_of_le_of_lt Nat.and_le_left (Nat.lt_of_lt_of_le he (Nat.pow_le_pow_right (by decide) (by omega)))
  rw [Nat.mod_eq_of_lt hj]
  refine ⟨⟨rfl, by omega⟩, Nat.one_le_two_pow, by omega, ⟨hp, by omega⟩, ?_⟩
  show P (e / 2 ^ j ||| (e &&& (2 ^ j - 1)) <<< (q - j)) c
  rw [← Nat.shiftRight_eq_div_pow]
  exact p
theorem fip_w {n c : Nat} {P : Nat → Nat → Prop} (h0 : n ≠ 0) (p : P (fpF n) c) : fipW n c P := by
  rw [fipW_eq]
  refine ⟨h0, ?_⟩
  show 1 ≤ lnF (2 ^ fpF n) ∧ P (lnF (2 ^ fpF n) - 1) c
  rw [ln_pow]
  exact ⟨by omega, p⟩
theorem lap_w {n c : Nat} {P : Nat → Nat → Prop} (h0 : n ≠ 0) (p : P (lnF n - 1) c) : lapW n c P := by
  rw [lapW_eq]
  exact ⟨by have := ln_bit (ln_top h0); omega, p⟩
theorem oly_w {q d e c : Nat} {P : Option Nat → Nat → Prop} (hq : 0 < q) (hq6 : q ≤ 60) (hd : d < 2 ^ q) (he : e < 2 ^ q) (p : P (otF q d e) c) : olyW q d e c P := by
  rw [olyW_eq]
  unfold otF at p
  show seqW (if (!decide (e ^^^ (d &&& e) = 0)) = true then _ else _) _ _ _
  by_cases b : e ^^^ (d &&& e) = 0
  · rw [if_neg (fun z => z b)] at p
    refine seq_skip (by simp [b]) ?_
    refine or_b (x := decide (e = 0)) (y := decide (d ^^^ (d &&& e) = 0)) (fun Q z => z) (fun _ Q z => z) ?_
    by_cases c1 : e = 0
    · rw [if_pos (.inl c1)] at p
      exact seq_yes (by simp [c1]) p
    · by_cases c2 : d ^^^ (d &&& e) = 0
      · rw [if_pos (.inr c2)] at p
        exact seq_yes (by simp [c2]) p
      · rw [if_neg (fun z => z.elim c1 c2)] at p
        refine seq_skip (by simp [c1, c2]) ?_
        have hg := ln_top c2
        rw [lac_bit] at hg
        obtain ⟨g1, g2⟩ := Bool.and_eq_true_iff.mp hg
        have hgq := lt_of_bit hd g1
        refine lap_w c2 ?_
        generalize lnF (d ^^^ (d &&& e)) - 1 = g at p hgq
        have hn0 : trn q e g ≠ 0 := fun z => by
          obtain ⟨y, hy⟩ := Nat.exists_testBit_of_ne_zero c1
          have hyq := lt_of_bit he hy
          obtain ⟨l, hl, el⟩ := at_of g hyq
          have : (trn q e g).testBit l = true := by rw [trn_bit hgq he, decide_eq_true hl, Bool.true_and, Nat.add_comm, el]; exact hy
          rw [z, Nat.zero_testBit] at this
          cases this
        exact tur_w hgq hq6 he (fip_w hn0 ⟨hq, p⟩)
  · rw [if_pos b] at p
    refine seq_yes (by simp [b]) ?_
    exact lap_w b p
theorem trn_lt {q e j : Nat} (hj : j < q) (he : e < 2 ^ q) : trn q e j < 2 ^ q := Nat.lt_pow_two_of_testBit _ fun k hk => by
  rw [trn_bit hj he, decide_eq_false (by omega)]
  rfl
theorem ln_le {n q : Nat} (h : n < 2 ^ q) : lnF n ≤ q := by
  by_cases e : n = 0
  · rw [e]
    exact Nat.zero_le _
  · have := lt_of_bit h (ln_top e)
    omega
theorem iow_w {q d e j c : Nat} {P : Bool → Nat → Prop} (hj : j < q) (hq6 : q ≤ 60) (hd : d < 2 ^ q) (he : e < 2 ^ q) (p : P (iwF q d e j) c) : iowW q d e j c P := by
  rw [iowW_eq]
  refine tur_w hj hq6 he (tur_w hj hq6 hd ?_)
  have hl := ln_le (trn_lt hj he)
  refine ⟨⟨rfl, by omega⟩, Nat.one_le_two_pow, ?_⟩
  exact and_w (x := decide (trn q e j &&& 1 = 1)) (y := decide ((trn q e j ^^^ trn q d j) &&& (2 ^ lnF (trn q e j) - 1) ≤ 1)) (fun Q z => z) (fun _ Q z => z) p
theorem tth_w {q h o s c : Nat} {P : Option Nat → Nat → Prop} (hq : 0 < q) (hq6 : q ≤ 60) (hh : h < 2 ^ q) (ho : o < 2 ^ q) (hs : s < 2 ^ q) (p : P (thF q (h ^^^ s) (o ^^^ s)) c) : tthW q h o s c P := by
  rw [tthW_eq]
  have hd : h ^^^ s < 2 ^ q := Nat.xor_lt_two_pow hh hs
  have he : o ^^^ s < 2 ^ q := Nat.xor_lt_two_pow ho hs
  refine oly_w hq hq6 hd he ?_
  unfold thF at p
  cases z : otF q (h ^^^ s) (o ^^^ s) with
  | none =>
    rw [z] at p
    refine or_b (x := true) (y := false) (fun Q w => w) (fun e => nomatch e) ?_
    exact p
  | some j =>
    rw [z] at p
    have hj := (ot_lt hq he z).1
    have p : P (if iwF q (h ^^^ s) (o ^^^ s) j = true then some j else none) c := p
    refine or_b (x := false) (y := !iwF q (h ^^^ s) (o ^^^ s) j) (fun Q w => w) (fun _ Q w => ⟨j, rfl, iow_w hj hq6 hd he w⟩) ?_
    cases b : iwF q (h ^^^ s) (o ^^^ s) j with
    | true =>
      rw [b] at p
      exact seq_no rfl p
    | false =>
      rw [b] at p
      exact seq_yes rfl p

end Bf
namespace Bf
open PySem PySem.Spec PyProof.Rows L2 LamX NdefX
/-- the trees that some hands spoil -/
def spF (q h s : Nat) (os : List Nat) (n : Nat) : List Nat := (List.range n).filter fun j => os.any fun o => decide (thF q (h ^^^ s) (o ^^^ s) = some j)
theorem spF_succ (q h s : Nat) (os : List Nat) (n : Nat) : spF q h s os (n + 1) = spF q h s os n ++ (if (os.any fun o => decide (thF q (h ^^^ s) (o ^^^ s) = some n)) = true then [n] else []) := by
  unfold spF
  rw [List.range_succ, List.filter_append]
  cases e : os.any fun o => decide (thF q (h ^^^ s) (o ^^^ s) = some n) <;> simp [e]
theorem spF_len (q h s : Nat) (os : List Nat) (n : Nat) : (spF q h s os n).length ≤ n := by
  unfold spF
  have := List.length_filter_le (fun j => os.any fun o => decide (thF q (h ^^^ s) (o ^^^ s) = some j)) (List.range n)
  rw [List.length_range] at this
  exact this
theorem sp_iff {q h s j : Nat} {os : List Nat} (hq : 0 < q) (hh : h < 2 ^ q) (hs : s < 2 ^ q) (hos : ∀ o ∈ os, o < 2 ^ q) : j ∈ spF q h s os q ↔ j < q ∧ ∃ o ∈ os, Bt q (h ^^^ s) j (o ^^^ s) := by
  unfold spF
  rw [List.mem_filter, List.mem_range, List.any_eq_true]
  constructor
  · rintro ⟨h1, o, h2, h3⟩
    exact ⟨h1, o, h2, ((th_iff hq (Nat.xor_lt_two_pow hh hs) (Nat.xor_lt_two_pow (hos o h2) hs)).mp (of_decide_eq_true h3)).2⟩
  · rintro ⟨h1, o, h2, h3⟩
    exact ⟨h1, o, h2, decide_eq_true ((th_iff hq (Nat.xor_lt_two_pow hh hs) (Nat.xor_lt_two_pow (hos o h2) hs)).mpr ⟨h1, h3⟩)⟩
theorem spF_nodup (q h s : Nat) (os : List Nat) (n : Nat) : (spF q h s os n).Pairwise (· < ·) := List.Pairwise.filter _ List.pairwise_lt_range
theorem spF_le (q h s : Nat) (os : List Nat) (n : Nat) : (spF q h s os n).length ≤ os.length := by
  have := nodup_le (l := spF q h s os n) (m := os.map fun o => (thF q (h ^^^ s) (o ^^^ s)).getD 0) ((spF_nodup q h s os n).imp fun {a b} z => Nat.ne_of_lt z) fun x hx => by
    unfold spF at hx
    rw [List.mem_filter, List.any_eq_true] at hx
    obtain ⟨_, o, ho, e⟩ := hx
    refine List.mem_map.mpr ⟨o, ho, ?_⟩
    rw [of_decide_eq_true e]
    rfl
  rw [List.length_map] at this
  exact this
theorem spF_lt {q h s n j : Nat} {os : List Nat} (hj : j ∈ spF q h s os n) : j < n := by
  unfold spF at hj
  exact List.mem_range.mp (List.mem_filter.mp hj).1
theorem sp_both {q h s : Nat} {xs ys zs ds : List Nat} (hz : ∀ o, o ∈ zs ↔ o ∈ xs ++ ys) (hd : ∀ j, j ∈ ds ↔ j ∈ spF q h s xs q ++ spF q h s ys q) (pd : ds.Pairwise (· < ·)) : spF q h s zs q = ds := by
  refine uniq_sorted (key := fun n : Nat => (n : Int)) ((spF_nodup q h s zs q).imp fun {a b} h => by omega) (pd.imp fun {a b} h => by omega) fun j => ?_
  rw [hd, List.mem_append]
  unfold spF
  simp only [List.mem_filter, List.any_eq_true, hz, List.mem_append]
  constructor
  · rintro ⟨h1, o, ho | ho, h2⟩
    · exact .inl ⟨h1, o, ho, h2⟩
    · exact .inr ⟨h1, o, ho, h2⟩
  · rintro (⟨h1, o, ho, h2⟩ | ⟨h1, o, ho, h2⟩)
    · exact ⟨h1, o, .inl ho, h2⟩
    · exact ⟨h1, o, .inr ho, h2⟩
theorem sp_ends {q h s : Nat} {zs : List Nat} (hq : 0 < q) (hh : h < 2 ^ q) (hs : s < 2 ^ q) (hz : ∀ o, o ∈ zs ↔ o ∈ [s, h]) : spF q h s zs q = [] := by
  have hzs : ∀ o ∈ zs, o < 2 ^ q := fun o ho => by
    have := (hz o).mp ho
    simp only [List.mem_cons, List.not_mem_nil, or_false] at this
    rcases this with rfl | rfl
    · exact hs
    · exact hh
  rw [List.eq_nil_iff_forall_not_mem]
  intro j hj
  obtain ⟨h1, o, ho, hb⟩ := (sp_iff hq hh hs hzs).mp hj
  have := (hz o).mp ho
  simp only [List.mem_cons, List.not_mem_nil, or_false] at this
  have hd := Nat.xor_lt_two_pow hh hs
  rcases this with rfl | rfl
  · rw [Nat.xor_self] at hb
    exact (bt_end h1 hd).1 hb
  · exact (bt_end h1 hd).2 hb
end Bf
namespace Bf
open PySem PySem.Spec PyProof.Rows L2 LamX NdefX
theorem half_pow {P S L p : Nat} : (if L % 2 = 1 then P * S % p else P) * (S * S % p) ^ (L / 2) % p = P * S ^ L % p := by
  have e : (S * S % p) ^ (L / 2) % p = (S * S) ^ (L / 2) % p := by rw [← Nat.pow_mod]
  have e2 : (S * S) ^ (L / 2) = S ^ (2 * (L / 2)) := by rw [Nat.pow_mul, Nat.pow_two]
  by_cases c : L % 2 = 1
  · rw [if_pos c, Nat.mul_mod, e, Nat.mod_mod, ← Nat.mul_mod, e2, Nat.mul_assoc, ← Nat.pow_succ']
    congr 3
    omega
  · rw [if_neg c, Nat.mul_mod, e, ← Nat.mul_mod, e2]
    congr 3
    omega
theorem rai_w {n b e c : Nat} {P : Nat → Nat → Prop} (h2 : 2 ≤ n) (h9 : n ≤ 1000000000) (h : P (b ^ e % n) c) : raiW n b e c P := by
  rw [raiW_eq]
  refine ⟨by omega, ?_⟩
  refine seq_while (fun m (s : Nat × Nat × Nat) c' => c' = c ∧ m = s.2.2 ∧ s.1 < n ∧ s.2.1 < n ∧ s.1 * s.2.1 ^ s.2.2 % n = b ^ e % n) e ⟨rfl, rfl, by show 1 < n; omega, Nat.mod_lt _ (by omega), ?_⟩ ?_
  · show 1 * (b % n) ^ e % n = b ^ e % n
    rw [Nat.one_mul, ← Nat.pow_mod]
  · rintro m ⟨P1, S, L⟩ c' ⟨rfl, em, h3, h4, h5⟩
    have em : L = m := em.symm
    subst em
    show if decide (0 < L) = true then _ else _
    by_cases hL : 0 < L
    · rw [if_pos (decide_eq_true hL)]
      refine ⟨by omega, ?_⟩
      have hs : S < n := h4
      have hp : P1 < n := h3
      by_cases ho : L % 2 = 1
      · show seqW (if decide (L % 2 = 1) = true then _ else _) _ _ _
        rw [if_pos (decide_eq_true ho)]
        refine ⟨by omega, by omega, ⟨by omega, by omega, ⟨by omega, by omega⟩, L / 2, by show L / 2 < L; omega, rfl, rfl, Nat.mod_lt _ (by omega), Nat.mod_lt _ (by omega), ?_⟩⟩
        have := half_pow (P := P1) (S := S) (L := L) (p := n)
        rw [if_pos ho] at this
        exact this.trans h5
      · show seqW (if decide (L % 2 = 1) = true then _ else _) _ _ _
        rw [if_neg (by simpa using ho)]
        refine ⟨by omega, by omega, ⟨by omega, by omega⟩, L / 2, by show L / 2 < L; omega, rfl, rfl, hp, Nat.mod_lt _ (by omega), ?_⟩
        have := half_pow (P := P1) (S := S) (L := L) (p := n)
        rw [if_neg ho] at this
        exact this.trans h5
    · rw [if_neg (by simpa using hL)]
      have : L = 0 := by omega
      subst this
      show P P1 c'
      have e1 : P1 = b ^ e % n := by
        have : P1 * S ^ 0 % n = b ^ e % n := h5
        rw [Nat.pow_zero, Nat.mul_one, Nat.mod_eq_of_lt h3] at this
        exact this
      rw [e1]
      exact h
theorem inv_w {p z c : Nat} {P : Nat → Nat → Prop} (h2 : 2 ≤ p) (h9 : p ≤ 1000000000) (hz : ¬ p ∣ z) (h : P (z ^ (p - 2) % p) c) : invW p z c P := by
  rw [invW_eq]
  refine ⟨by omega, ?_⟩
  show seqW (if decide (z % p = 0) = true then _ else _) _ _ _
  rw [if_neg (by simp; exact fun e => hz (Nat.dvd_of_mod_eq_zero e))]
  exact ⟨by omega, rai_w h2 h9 h⟩
theorem val_w {p x c : Nat} {row : List Nat} {P : Nat → Nat → Prop} (hp : 0 < p) (h9 : p ≤ 1000000000) (h : P (ev row x % p) c) : valW p row x c P := by
  rw [valW_eq]
  refine seq_for (xs := row.reverse) (fun i s c' => c' = c ∧ s = ev (row.drop (row.length - i)) x % p) ⟨rfl, ?_⟩ ?_ ?_
  · rw [Nat.sub_zero, List.drop_length]
    show 0 = 0 % p
    rw [Nat.zero_mod]
  · rintro i a s c' e ⟨rfl, rfl⟩ Q q
    have hi := (List.getElem?_eq_some_iff.mp e).1
    rw [List.length_reverse] at hi
    rw [getElem_rev hi] at e
    have hb : ev (row.drop (row.length - i)) x % p < p := Nat.mod_lt _ hp
    refine ⟨by omega, hp, q _ _ ⟨rfl, ?_⟩⟩
    rw [ev_step]
    have hlt := (List.getElem?_eq_some_iff.mp e).1
    have : row.drop (row.length - (i + 1)) = a :: row.drop (row.length - i) := by
      rw [show row.length - (i + 1) = row.length - 1 - i by omega, List.drop_eq_getElem_cons hlt, show row.length - 1 - i + 1 = row.length - i by omega]
      congr 1
      exact (List.getElem?_eq_some_iff.mp e).2
    rw [this]
  · rintro s c' ⟨rfl, rfl⟩
    rw [List.length_reverse, Nat.sub_self, List.drop_zero]
    exact h
theorem zip_len {as bs : List Nat} (h : as.length = bs.length) : (as.zip bs).length = as.length := by rw [List.length_zip]; omega
theorem wr_w {p x c : Nat} {zs : List Nat} {P : List Nat → Nat → Prop} (hp : 0 < p) (hz : zs.length ≤ 1000) (hx : x < 2 ^ 63) (h : P (wrF p zs x) c) : wrW p zs x c P := by
  rw [wrW_eq]
  have hl : (0 :: zs).length = (zs ++ [0]).length := by simp
  have h24 : sizeLine = 16777216 := rfl
  refine ⟨by show 1 ≤ sizeLine; decide, ⟨by show 1 + zs.length ≤ sizeLine; omega, by show 1 ≤ sizeLine; decide, by show zs.length + 1 ≤ sizeLine; omega, ?_⟩⟩
  refine ⟨by show ((0 :: zs).zip (zs ++ [0])).length ≤ sizeLine; rw [zip_len hl]; show zs.length + 1 ≤ sizeLine; omega, ?_⟩
  refine lcW_map (g := fun ab : Nat × Nat => mdN p (1 * (ab.1 : Int) + -(x : Int) * ab.2)) (fun i a c' e Q q => ?_) h
  refine ⟨hx, by show (0 : Int) < (p : Int); omega, Int.emod_nonneg _ (by show (p : Int) ≠ 0; omega), ?_⟩
  have : mdN p (1 * (a.1 : Int) + -(x : Int) * a.2) = (((a.1 : Int) - ((x * a.2 : Nat) : Int)) % (p : Int)).toNat := by
    unfold mdN
    congr 2
    rw [Int.natCast_mul]
    grind
  rw [this] at q
  exact q
theorem cmul_small {a b : Int} (h : -(2 ^ 64) < b ∧ b < 2 ^ 64) : CMul a b := .inr h
theorem tg_w {p c : Nat} {ps : List (Nat × Nat)} {P : List Nat → Nat → Prop} (hp : IsP p) (h9 : p ≤ 1000000000) (hl : ps.length ≤ 900) (hx : ∀ xv ∈ ps, xv.1 < 2 ^ 63) (hd : ps.Pairwise (fun a b => ¬ (p : Int) ∣ (b.1 : Int) - a.1)) (h : ∀ row zs, Thr p ps row zs → P row c) : tgW p ps c P := by
  rw [tgW_eq]
  have h2 := hp.two
  have h24 : sizeLine = 16777216 := rfl
  refine ⟨by show 0 ≤ sizeLine; decide, by show 1 ≤ sizeLine; decide, ?_⟩
  refine seq_for (xs := ps) (fun i (s : List Nat × List Nat) c' => c' = c ∧ Thr p (ps.take i) s.1 s.2) ⟨rfl, thr_nil hp⟩ ?_ ?_
  · rintro i ⟨x, v⟩ ⟨row, zs⟩ c' e ⟨rfl, ht⟩ Q q
    have hi := (List.getElem?_eq_some_iff.mp e).1
    have ht : Thr p (ps.take i) row zs := ht
    have hfar : ∀ xv ∈ ps.take i, ¬ (p : Int) ∣ (x : Int) - xv.1 := fun xv hxv => by
      obtain ⟨j, hj, ej⟩ := List.mem_iff_getElem.mp hxv
      rw [List.length_take] at hj
      have hji : j < i := by omega
      have := List.pairwise_iff_getElem.mp hd j i (by omega) hi hji
      rw [(List.getElem?_eq_some_iff.mp e).2] at this
      rw [List.getElem_take] at ej
      rw [ej] at this
      exact this
    obtain ⟨hz, hn⟩ := thr_next (v := v) hp ht hfar
    refine val_w (by omega) h9 (val_w (by omega) h9 (inv_w h2 h9 hz ⟨?_, ?_⟩))
    · refine cmul_small ⟨?_, ?_⟩
      · show -(2 ^ 64) < (((ev zs x % p) ^ (p - 2) % p : Nat) : Int)
        omega
      · show (((ev zs x % p) ^ (p - 2) % p : Nat) : Int) < 2 ^ 64
        have : (ev zs x % p) ^ (p - 2) % p < p := Nat.mod_lt _ (by omega)
        omega
    generalize ((v : Int) - ((ev row x % p : Nat) : Int)) * (((ev zs x % p) ^ (p - 2) % p : Nat) : Int) = t at hn ⊢
    have hl1 : row.length = (ps.take i).length := ht.len
    have hl2 : zs.length = (ps.take i).length + 1 := ht.lenz
    rw [List.length_take] at hl1 hl2
    have hll : (row ++ [0]).length = zs.length := by rw [List.length_append]; show row.length + 1 = zs.length; omega
    refine ⟨by show 1 ≤ sizeLine; decide, by show row.length + 1 ≤ sizeLine; omega, ?_⟩
    refine ⟨by show ((row ++ [0]).zip zs).length ≤ sizeLine; rw [zip_len hll, List.length_append]; show row.length + 1 ≤ sizeLine; omega, ?_⟩
    refine lcW_map (g := fun ab : Nat × Nat => mdN p (1 * (ab.1 : Int) + t * ab.2)) (fun j ab c'' e' Q' q' => ?_) ?_
    · have hb := ht.ltz ab.2 (List.of_mem_zip (List.mem_of_getElem? e')).2
      refine ⟨cmul_small ⟨by show -(2 ^ 64) < (ab.2 : Int); omega, by show (ab.2 : Int) < 2 ^ 64; omega⟩, by show (0 : Int) < (p : Int); omega, Int.emod_nonneg _ (by show (p : Int) ≠ 0; omega), ?_⟩
      have : mdN p (1 * (ab.1 : Int) + t * ab.2) = (((ab.1 : Int) + t * (ab.2 : Int)) % (p : Int)).toNat := by
        unfold mdN
        rw [Int.one_mul]
      rw [this] at q'
      exact q'
    · refine wr_w (by omega) (by show zs.length ≤ 1000; omega) (hx _ (List.mem_of_getElem? e)) (q (_, _) _ ⟨rfl, ?_⟩)
      rw [List.take_add_one, e]
      exact hn
  · rintro ⟨row, zs⟩ c' ⟨rfl, ht⟩
    rw [List.take_length] at ht
    exact h row zs ht
theorem cutW_take {α : Type} {xs : List α} {k : Nat} : cutW xs none (some (k : Int)) = xs.take k := by
  unfold cutW
  rw [HT.sIx_none, HT.sIx_nat, List.drop_zero, Nat.sub_zero]
  rcases Nat.le_total k xs.length with l | l
  · rw [Nat.min_eq_left l]
  · rw [Nat.min_eq_right l, List.take_of_length_le l, List.take_length]
theorem cutW_drop {α : Type} {xs : List α} {k : Nat} : cutW xs (some (k : Int)) none = xs.drop k := by
  unfold cutW
  rw [HT.sIx_none, HT.sIx_nat]
  rcases Nat.le_total k xs.length with l | l
  · rw [Nat.min_eq_left l, List.take_of_length_le (by rw [List.length_drop]; omega)]
  · rw [Nat.min_eq_right l, List.drop_length, List.drop_of_length_le l, List.take_nil]
/-- pairs of which each is a spot and the row's value there -/
def valsAt (p : Nat) (line xs : List Nat) : List (Nat × Nat) := xs.map fun x => (x, ev line x % p)
theorem all_true {α : Type} {xs : List α} : (xs.map fun _ => true).all id = true := by
  induction xs with
  | nil => rfl
  | cons x xs ih => exact ih
/-- as many pairs of the row as it has numbers, or more: the row -/
theorem rt_w {p k c : Nat} {line xs : List Nat} {P : Option (List Nat) → Nat → Prop} (hp : IsP p) (h9 : p ≤ 1000000000) (hk : line.length = k) (hkx : k ≤ xs.length) (hl : xs.length ≤ 900) (hx : ∀ x ∈ xs, x < 2 ^ 63) (hlt : ∀ n ∈ line, n < p) (hd : xs.Pairwise (fun (a b : Nat) => ¬ (p : Int) ∣ (b : Int) - (a : Int))) (h : P (some line) c) : rtW p k (valsAt p line xs) c P := by
  rw [rtW_eq]
  have h2 := hp.two
  have hvl : (valsAt p line xs).length = xs.length := by unfold valsAt; rw [List.length_map]
  show seqW (if decide ((valsAt p line xs).length < k) = true then _ else _) _ _ _
  rw [if_neg (by simp; omega)]
  show tgW p (cutW (valsAt p line xs) none (some (k : Int))) 0 _
  rw [cutW_take]
  have ht : (valsAt p line xs).take k = valsAt p line (xs.take k) := by unfold valsAt; rw [List.map_take]
  have hxk : (xs.take k).length = k := by rw [List.length_take]; omega
  have hdk : (xs.take k).Pairwise (fun (a b : Nat) => ¬ (p : Int) ∣ (b : Int) - (a : Int)) := List.Pairwise.sublist (List.take_sublist k xs) hd
  rw [ht]
  refine tg_w hp h9 (by unfold valsAt; rw [List.length_map]; omega) (fun xv hxv => ?_) ?_ fun row zs th => ?_
  · unfold valsAt at hxv
    obtain ⟨x, hx', rfl⟩ := List.mem_map.mp hxv
    exact hx x (List.mem_of_mem_take hx')
  · unfold valsAt
    rw [List.pairwise_map]
    exact hdk
  have erow : row = line := by
    have hrl := th.len
    unfold valsAt at hrl
    rw [List.length_map] at hrl
    refine row_one hp hrl (by omega) th.lt hlt hdk fun x hx => ?_
    have h1 := th.at_ (x, ev line x % p) (List.mem_map.mpr ⟨x, hx, rfl⟩)
    have h2 := mod_cong (p := p) (a := ev line x)
    rw [ev_cz] at h2
    exact dvd_tr h1 h2
  subst erow
  have h24 : sizeLine = 16777216 := rfl
  show reqW ((cutW (valsAt p row xs) (some (k : Int)) none).length ≤ sizeLine) _ _ _
  rw [cutW_drop]
  refine ⟨by rw [List.length_drop, hvl]; omega, ?_⟩
  refine lcW_map (g := fun _ => true) (fun i a c' e Q q => ?_) ?_
  · have hm := List.mem_of_mem_drop (List.mem_of_getElem? e)
    unfold valsAt at hm
    obtain ⟨x', _, rfl⟩ := List.mem_map.mp hm
    refine val_w (by omega) h9 ?_
    show Q (decide (ev row x' % p = ev row x' % p)) c'
    rw [decide_eq_true rfl]
    exact q
  · show seqW (if (List.map (fun _ => true) ((valsAt p row xs).drop k)).all id = true then _ else _) _ _ _
    rw [all_true, if_pos rfl]
    exact h

def prL : List Nat := [2, 3, 5, 7, 11, 13, 31, 61, 67, 101, 997, 65537, 999999893, 999999937]
theorem prL_ok : ∀ p ∈ prL, 2 ≤ p ∧ p ≤ 1000000000 := by decide
theorem fi_w {wide n : Nat} {P : Nat → Nat → Prop} (hw : wide ≤ 60) (hn : n < 100000) (h : ∀ p ∈ prL, wide < p → P p (n + 1)) : fiW wide n P := by
  rw [fiW_eq]
  refine ⟨by show 14 ≤ sizeLine; decide, by show 14 ≤ sizeLine; decide, ?_⟩
  refine lcW_filter (t := fun p => decide (wide < p)) (xs := prL) (fun i a c e Q q => q) ?_
  refine ⟨⟨?_, ?_, hn⟩, fun x hx => ?_⟩
  · exact List.length_pos_of_mem (a := 999999937) (List.mem_filter.mpr ⟨by decide, decide_eq_true (by omega)⟩)
  · have := List.length_filter_le (fun p => decide (wide < p)) prL
    exact Nat.lt_of_le_of_lt this (by show 14 < 1073741824; decide)
  · obtain ⟨h1, h2⟩ := List.mem_filter.mp hx
    exact h x h1 (of_decide_eq_true h2)
theorem nu_w {p k n : Nat} {P : List Nat → Nat → Prop} (h2 : 2 ≤ p) (h9 : p ≤ 1000000000) (hk : k ≤ 1000) (hn : n + 2 * k < 100000) (h : ∀ ns : List Nat, ns.length = k → (∀ x ∈ ns, x < p) → P ns (n + 2 * k)) : nuW p k n P := by
  rw [nuW_eq]
  have h24 : sizeLine = 16777216 := rfl
  refine ⟨by omega, by rw [List.length_range]; omega, ?_⟩
  refine lcW_inv (fun i acc n' => n' = n + 2 * i ∧ acc.length = i ∧ ∀ x ∈ acc, x < p) ⟨rfl, rfl, fun x hx => absurd hx List.not_mem_nil⟩ ?_ ?_
  · rintro i a acc n' e ⟨rfl, hl, hx⟩ Q q
    have hi := (List.getElem?_eq_some_iff.mp e).1
    rw [List.length_range] at hi
    dsimp only [retW]
    rw [if_pos rfl]
    refine ⟨by omega, ⟨by omega, by omega, by omega⟩, fun r hr => ⟨by show 4 ≤ sizeLine; decide, ⟨by show 0 < 4; decide, by show 4 < 1073741824; decide, by omega⟩, fun x hx' => q _ _ ⟨by omega, by rw [List.length_append, hl]; rfl, fun y hy => ?_⟩⟩⟩
    rcases List.mem_append.mp hy with hy | hy
    · exact hx y hy
    · rw [List.mem_singleton.mp hy]
      have : x ∈ [0, 1, p - 1, r] := hx'
      simp only [List.mem_cons, List.not_mem_nil, or_false] at this
      omega
  · rintro acc n' ⟨rfl, hl, hx⟩
    rw [List.length_range] at hl ⊢
    exact h acc hl hx

def valsR (p : Nat) (row : List Nat) (many : Nat) : List Nat := (List.range many).map fun i => ev row (i + 1) % p
theorem rng_vals {p : Nat} {row : List Nat} {many : Nat} : (rng2 1 (many + 1)).map (fun x => ev row x % p) = valsR p row many := by
  unfold rng2 valsR
  rw [List.map_map, show many + 1 - 1 = many by omega]
  refine List.map_congr_left fun i _ => ?_
  show ev row (1 + i) % p = _
  rw [Nat.add_comm]
theorem rng_len {many : Nat} : (rng2 1 (many + 1)).length = many := by
  unfold rng2
  rw [List.length_map, List.length_range]
  omega
theorem valsR_get {p many j : Nat} {row : List Nat} (h : j < many) : (valsR p row many)[j]? = some (ev row (j + 1) % p) := by
  unfold valsR
  rw [List.getElem?_map, List.getElem?_range h]
  rfl
theorem valsR_len {p many : Nat} {row : List Nat} : (valsR p row many).length = many := by
  unfold valsR
  rw [List.length_map, List.length_range]
theorem vas_w {p many c : Nat} {row : List Nat} {P : List Nat → Nat → Prop} (hp : 0 < p) (h9 : p ≤ 1000000000) (hm : many ≤ 1000) (h : P (valsR p row many) c) : vasW p row many c P := by
  rw [vasW_eq]
  have h24 : sizeLine = 16777216 := rfl
  refine ⟨⟨by decide, by omega⟩, by rw [rng_len]; omega, ?_⟩
  refine lcW_map (g := fun x => ev row x % p) (fun i a c' e Q q => val_w hp h9 q) ?_
  show P ((rng2 1 (many + 1)).map (fun x => ev row x % p)) c
  rw [rng_vals]
  exact h

theorem spl_w {q h s c : Nat} {lot : List Nat} {P : List Nat → Nat → Prop} (hq : 0 < q) (hq6 : q ≤ 60) (hh : h < 2 ^ q) (hs : s < 2 ^ q) (hl : ∀ o ∈ lot, o < 2 ^ q) (hn : lot.length ≤ 100000) (p : P (spF q h s lot q) c) : splW q h lot s c P := by
  rw [splW_eq]
  have h24 : sizeLine = 16777216 := rfl
  refine ⟨by omega, lcW_map (g := fun o => thF q (h ^^^ s) (o ^^^ s)) (fun i o c' e Q q' => tth_w hq hq6 hh (hl o (List.mem_of_getElem? e)) hs q') ?_⟩
  refine ⟨by omega, by rw [List.length_range]; omega, ?_⟩
  refine lcW_filter (t := fun j => decide (some j ∈ lot.map fun o => thF q (h ^^^ s) (o ^^^ s))) (fun i j c' e Q q' => q') ?_
  have e : ((List.range q).filter fun j => decide (some j ∈ lot.map fun o => thF q (h ^^^ s) (o ^^^ s))) = spF q h s lot q := by
    unfold spF
    refine List.filter_congr fun j _ => ?_
    rw [Bool.eq_iff_iff, decide_eq_true_iff, List.mem_map, List.any_eq_true]
    exact ⟨fun ⟨o, h1, h2⟩ => ⟨o, h1, decide_eq_true h2⟩, fun ⟨o, h1, h2⟩ => ⟨o, h1, of_decide_eq_true h2⟩⟩
  rw [e]
  exact p
/-- the trees by which letters come -/
def camF (q h s : Nat) (lot : List Nat) : List Nat := (List.range q).filter fun j => !decide (j ∈ spF q h s lot q)
theorem cam_w {q h s c : Nat} {lot : List Nat} {P : List Nat → Nat → Prop} (hq : 0 < q) (hq6 : q ≤ 60) (hh : h < 2 ^ q) (hs : s < 2 ^ q) (hl : ∀ o ∈ lot, o < 2 ^ q) (hn : lot.length ≤ 100000) (p : P (camF q h s lot) c) : camW q h lot s c P := by
  rw [camW_eq]
  have h24 : sizeLine = 16777216 := rfl
  refine spl_w hq hq6 hh hs hl hn ⟨by omega, by rw [List.length_range]; omega, ?_⟩
  exact lcW_filter (t := fun j => !decide (j ∈ spF q h s lot q)) (fun i j c' e Q q' => q') p
theorem camF_lt {q h s j : Nat} {lot : List Nat} (hj : j ∈ camF q h s lot) : j < q := List.mem_range.mp (List.mem_filter.mp hj).1
theorem camF_nodup (q h s : Nat) (lot : List Nat) : (camF q h s lot).Nodup := List.Pairwise.filter _ List.nodup_range
theorem filter_split {α : Type} (t : α → Bool) : ∀ l : List α, (l.filter t).length + (l.filter fun x => !t x).length = l.length
  | [] => rfl
  | x :: l => by
    have ih := filter_split t l
    rw [List.filter_cons, List.filter_cons, List.length_cons]
    cases t x with
    | true => rw [if_pos rfl, if_neg (by decide), List.length_cons]; omega
    | false =>
      rw [if_neg (by decide)]
      show (List.filter t l).length + (x :: List.filter (fun x => !t x) l).length = _
      rw [List.length_cons]; omega
theorem camF_len {q h s : Nat} {lot : List Nat} : q - lot.length ≤ (camF q h s lot).length := by
  have h1 := filter_split (fun j => decide (j ∈ spF q h s lot q)) (List.range q)
  rw [List.length_range] at h1
  have h2 : ((List.range q).filter fun j => decide (j ∈ spF q h s lot q)).length ≤ lot.length := by
    have := nodup_le (l := (List.range q).filter fun j => decide (j ∈ spF q h s lot q)) (m := spF q h s lot q) (List.Pairwise.filter _ List.nodup_range) fun x hx => of_decide_eq_true (List.mem_filter.mp hx).2
    exact Nat.le_trans this (spF_le q h s lot q)
  unfold camF
  omega
theorem let_w {p q c : Nat} {ls : List (List Nat)} {P : List Nat → Nat → Prop} (hp : 0 < p) (h9 : p ≤ 1000000000) (hq : q ≤ 1000) (hl : ls.length ≤ 1000) (h : P (ls.flatMap fun r => valsR p r q) c) : letW p q ls c P := by
  rw [letW_eq]
  refine lc2W_map (t := fun _ => true) (f := fun r => valsR p r q) (t2 := fun _ _ => true) (g := fun _ v => v) (N := 1000) (fun a _ n Q q => q) (fun a _ _ n Q q => vas_w hp h9 hq q) (fun a _ _ b _ n Q q => q) (fun a _ _ b _ _ n Q q => q) (fun a _ => by rw [valsR_len]; exact hq) ?_ ?_
  · have : sizeLine = 16777216 := rfl
    omega
  · have e : ((ls.filter fun _ => true).flatMap fun a => ((valsR p a q).filter fun _ => true).map fun v => v) = ls.flatMap fun r => valsR p r q := by
      have e1 : ∀ a, ((valsR p a q).filter fun _ => true).map (fun v => v) = valsR p a q := fun a => by rw [List.filter_eq_self.mpr fun _ _ => rfl, List.map_id']
      rw [List.filter_eq_self.mpr fun _ _ => rfl]
      congr 1
      funext a
      exact e1 a
    show P ((ls.filter fun _ => true).flatMap fun a => ((valsR p a q).filter fun _ => true).map fun v => v) c
    rw [e]
    exact h
theorem tlb_w {q f c : Nat} {P : Nat → Nat → Prop} (p : P (q - f) c) : tlbW q f c P := by
  rw [tlbW_eq]
  show 0 ≤ max ((q : Int) - (f : Int)) ((0 : Nat) : Int) ∧ P (max ((q : Int) - (f : Int)) ((0 : Nat) : Int)).toNat c
  refine ⟨by omega, ?_⟩
  rw [show (max ((q : Int) - (f : Int)) ((0 : Nat) : Int)).toNat = q - f by omega]
  exact p
theorem ori_w {q n : Nat} {P : Nat → Nat → Prop} (hq : q ≤ 60) (hn : n < 90000) (h : ∀ r, r < 2 ^ q → P r (n + 2)) : oriW q n P := by
  rw [oriW_eq]
  have h60 : 2 ^ q ≤ 2 ^ 60 := Nat.pow_le_pow_right (by decide) hq
  have h1 : 1 ≤ 2 ^ q := Nat.one_le_two_pow
  have h60' : (2 : Nat) ^ 60 = 1152921504606846976 := by decide
  refine ⟨⟨rfl, by omega⟩, h1, ⟨rfl, by omega⟩, ⟨by show 0 < 2 ^ q; omega, by show 2 ^ q < 2305843009213693952; omega, by omega⟩, fun r hr => ⟨by show 4 ≤ sizeLine; decide, ⟨by show 0 < 4; decide, by show 4 < 1073741824; decide, by omega⟩, fun x hx => h x ?_⟩⟩
  have : x ∈ [0, 0, 2 ^ q - 1, r] := hx
  have hr : r < 2 ^ q := hr
  simp only [List.mem_cons, List.not_mem_nil, or_false] at this
  omega

end Bf
namespace Bf
open PySem PySem.Spec PyProof.Rows L2 LamX NdefX
theorem lot_w {xs : List Nat} {k c : Nat} {P : Lst (List Nat) → Nat → Prop} (hl : xs.length ≤ 20) (h : ∀ Ls : List (List Nat), (∀ l ∈ Ls, l.Sublist xs ∧ l.length = k) → P ⟨Ls⟩ c) : lotW ⟨xs⟩ k c P := by
  rw [lotW_eq]
  have h24 : sizeLine = 16777216 := rfl
  refine ⟨by show 0 ≤ sizeLine; decide, by show 1 ≤ sizeLine; decide, ?_⟩
  refine seq_for (xs := xs) (fun i (s : Lst (List Nat)) c' => c' = c ∧ s.l.length ≤ 2 ^ i ∧ ∀ l ∈ s.l, l.Sublist (xs.take i)) ⟨rfl, Nat.le_refl _, fun l hl => ?_⟩ ?_ ?_
  · have : l ∈ [[]] := hl
    rw [List.mem_singleton.mp this]
    exact List.nil_sublist _
  · rintro i one ⟨ss⟩ c' e ⟨rfl, hs, hsub⟩ Q q
    have hi := (List.getElem?_eq_some_iff.mp e).1
    have hs : ss.length ≤ 2 ^ i := hs
    have hp : 2 ^ i ≤ 2 ^ 20 := Nat.pow_le_pow_right (by decide) (by omega)
    have hp20 : (2 : Nat) ^ 20 = 1048576 := by decide
    have hle : ∀ l ∈ ss, l.length ≤ i := fun l hl => by
      have := (hsub l hl).length_le
      rw [List.length_take] at this
      omega
    refine ⟨by show ss.length ≤ sizeLine; omega, ?_⟩
    refine lcW_both (t := fun few : List Nat => decide (few.length < k)) (g := fun few => few ++ [one]) (fun j few c'' ej Q' q' => q') (fun j few c'' ej _ Q' q' => ⟨by show 1 ≤ sizeLine; decide, by show few.length + 1 ≤ sizeLine; have := hle few (List.mem_of_getElem? ej); omega, q'⟩) ?_
    have hf := List.length_filter_le (fun few : List Nat => decide (few.length < k)) ss
    refine ⟨by show ss.length + ((ss.filter fun few : List Nat => decide (few.length < k)).map fun few => few ++ [one]).length ≤ sizeLine; rw [List.length_map]; omega, q ⟨ss ++ (ss.filter fun few : List Nat => decide (few.length < k)).map fun few => few ++ [one]⟩ _ ⟨rfl, ?_, fun l hl => ?_⟩⟩
    · show (ss ++ (ss.filter fun few : List Nat => decide (few.length < k)).map fun few => few ++ [one]).length ≤ _
      rw [List.length_append, List.length_map, Nat.pow_succ]
      omega
    · rw [List.take_add_one, e]
      rcases List.mem_append.mp (show l ∈ ss ++ _ from hl) with hl | hl
      · exact (hsub l hl).trans (List.sublist_append_left _ _)
      · obtain ⟨few, hf, rfl⟩ := List.mem_map.mp hl
        exact (hsub few (List.mem_filter.mp hf).1).append (List.Sublist.refl _)
  · rintro ⟨ss⟩ c' ⟨rfl, hs, hsub⟩
    have hs : ss.length ≤ 2 ^ xs.length := hs
    have hp : 2 ^ xs.length ≤ 2 ^ 20 := Nat.pow_le_pow_right (by decide) hl
    have hp20 : (2 : Nat) ^ 20 = 1048576 := by decide
    rw [List.take_length] at hsub
    refine ⟨by show ss.length ≤ sizeLine; omega, ?_⟩
    refine lcW_filter (t := fun few : List Nat => decide (few.length = k)) (fun j few c'' ej Q' q' => q') (h _ fun l hl => ?_)
    obtain ⟨h1, h2⟩ := List.mem_filter.mp hl
    exact ⟨hsub l h1, of_decide_eq_true h2⟩
theorem tel_bt {q d j : Nat} (hj : j < q) (hd : d < 2 ^ q) (hne : d ^^^ 2 ^ lstK q d j ≠ 0) : Bt q d j (d ^^^ 2 ^ lstK q d j) := by
  have hc := cl_ne q d j
  have e : cl q d j = (cl q d j).dropLast ++ [lstK q d j] := (List.dropLast_concat_getLast hc).symm
  have h1 := wf_cl hj hd 0
  rw [Nat.zero_xor, e, wf_snoc] at h1
  have h2 : wf 0 (cl q d j).dropLast = d ^^^ 2 ^ lstK q d j := by
    have := congrArg (· ^^^ 2 ^ lstK q d j) h1
    simp only [Nat.xor_assoc, Nat.xor_self, Nat.xor_zero] at this
    exact this
  have hpos : 0 < (cl q d j).length := List.length_pos_iff.mpr hc
  refine ⟨(cl q d j).length - 1, ?_, by omega, ?_⟩
  · rcases Nat.lt_or_ge ((cl q d j).length - 1) 1 with z | z
    · have : (cl q d j).dropLast = [] := List.eq_nil_of_length_eq_zero (by rw [List.length_dropLast]; omega)
      rw [this] at h2
      exact absurd h2.symm hne
    · exact z
  · rw [← List.dropLast_eq_take]
    exact h2
theorem cam_tellers {q one home : Nat} {trees some_ : List Nat} (hq : 0 < q) (ho : one < 2 ^ q) (hh : home < 2 ^ q) (hs : ∀ o, o ∈ some_ ↔ ∃ t ∈ trees, o = one ^^^ 2 ^ lstK q (one ^^^ home) t) (hne : home ∉ some_) (ht : ∀ t ∈ trees, t < q) : camF q one home some_ = (List.range q).filter fun j => !decide (j ∈ trees) := by
  have hd : one ^^^ home < 2 ^ q := Nat.xor_lt_two_pow ho hh
  have hso : ∀ o ∈ some_, o < 2 ^ q := fun o h => by
    obtain ⟨t, h1, rfl⟩ := (hs o).mp h
    exact Nat.xor_lt_two_pow ho (Nat.pow_lt_pow_right (by decide) (lstK_lt (ht t h1)))
  have key : ∀ t ∈ trees, Bt q (one ^^^ home) t ((one ^^^ 2 ^ lstK q (one ^^^ home) t) ^^^ home) := fun t h => by
    have e : (one ^^^ 2 ^ lstK q (one ^^^ home) t) ^^^ home = (one ^^^ home) ^^^ 2 ^ lstK q (one ^^^ home) t := by
      rw [Nat.xor_assoc, Nat.xor_comm (2 ^ _) home, ← Nat.xor_assoc]
    rw [e]
    refine tel_bt (ht t h) hd fun z => hne ((hs home).mpr ⟨t, h, ?_⟩)
    rw [← e] at z
    have := congrArg (· ^^^ home) z
    simp only [Nat.xor_assoc, Nat.xor_self, Nat.xor_zero, Nat.zero_xor] at this
    exact this.symm
  unfold camF
  refine List.filter_congr fun j hj => ?_
  congr 1
  rw [Bool.eq_iff_iff, decide_eq_true_iff, decide_eq_true_iff, sp_iff hq ho hh hso]
  constructor
  · rintro ⟨h1, o, h2, h3⟩
    obtain ⟨t, h4, rfl⟩ := (hs o).mp h2
    have e1 := (th_iff hq hd (Nat.xor_lt_two_pow (hso _ h2) hh)).mpr ⟨h1, h3⟩
    have e2 := (th_iff hq hd (Nat.xor_lt_two_pow (hso _ h2) hh)).mpr ⟨ht t h4, key t h4⟩
    have : j = t := Option.some.inj (e1.symm.trans e2)
    rw [this]
    exact h4
  · exact fun h => ⟨ht j h, _, (hs _).mpr ⟨j, h, rfl⟩, key j h⟩
theorem lri_w {p q home c : Nat} {shut line : List Nat} {P : Bool → Nat → Prop} (hp : IsP p) (h9 : p ≤ 1000000000) (hqp : q < p) (hq : 0 < q) (hq6 : q ≤ 6) (hs : home < 2 ^ q) (hsh : ∀ o ∈ shut, o < 2 ^ q) (hlt : ∀ n ∈ line, n < p) (hll : line.length + shut.length ≤ q) (h : P true c) : lriW p q shut line home c P := by
  rw [lriW_eq]
  unfold lriB
  simp only [eqv_dec]
  have h2 := hp.two
  have h24 : sizeLine = 16777216 := rfl
  have hq64 : 2 ^ q ≤ 2 ^ 6 := Nat.pow_le_pow_right (by decide) hq6
  have h64 : (2 : Nat) ^ 6 = 64 := by decide
  have e1 : (List.replicate (((if (!decide (line = [])) = true then 1 else 0 : Nat) : Int)).toNat [line]).flatten = if line = [] then [] else [line] := by
    by_cases hl : line = []
    · rw [if_pos hl, decide_eq_true hl]; rfl
    · rw [if_neg hl, decide_eq_false hl]; rfl
  refine ⟨by show 1 ≤ sizeLine; decide, by show 0 ≤ sizeLine; decide, ⟨shp _, shp _⟩, ⟨List.cons_ne_nil _ _, ?_, ?_, by show 1 ≤ 1000; decide⟩, ?_⟩
  · show (-1000 : Int) ≤ ((if (!decide (line = [])) = true then 1 else 0 : Nat) : Int)
    split <;> decide
  · show ((if (!decide (line = [])) = true then 1 else 0 : Nat) : Int) ≤ 1000
    split <;> decide
  show letW p q (List.replicate (((if (!decide (line = [])) = true then 1 else 0 : Nat) : Int)).toNat [line]).flatten 0 _
  rw [e1]
  refine let_w (by omega) h9 (by omega) (by split <;> simp) ?_
  have hW : ∀ t, t < q → line ≠ [] → ((if line = [] then [] else [line]).flatMap fun r => valsR p r q)[t]? = some (ev line (t + 1) % p) := fun t ht hl => by
    rw [if_neg hl]
    simp only [List.flatMap_cons, List.flatMap_nil, List.append_nil]
    exact valsR_get ht
  generalize (if line = [] then [] else [line]).flatMap (fun r => valsR p r q) = W at hW ⊢
  refine ⟨⟨rfl, by omega⟩, by omega, ?_⟩
  refine seq_for (xs := List.range (2 ^ q)) (fun i (s : Unit) c' => c' = c) rfl ?_ ?_
  · rintro i one ⟨⟩ c' e rfl Q qq
    have hone : one < 2 ^ q := by
      have := List.mem_of_getElem? e
      exact List.mem_range.mp this
    refine and_b (x := !decide (one = home)) (y := !decide (one ∈ shut)) (fun Q z => z) (fun _ Q z => z) ?_
    refine seq_if (fun hb => ?_) (fun hb => qq _ _ rfl)
    refine cam_w hq (by omega) hone hs hsh (by omega) ?_
    have hlen := camF_len (q := q) (h := one) (s := home) (lot := shut)
    refine ⟨by omega, ?_⟩
    refine seq_skip (decide_eq_false (by omega)) ?_
    have hct : ∀ t ∈ camF q one home shut, t < q := fun t ht => camF_lt ht
    have hnd := camF_nodup q one home shut
    generalize camF q one home shut = trees at hlen hct hnd
    have htl : trees.length ≤ q := by
      have := nodup_le hnd (m := List.range q) fun x hx => List.mem_range.mpr (hct x hx)
      rw [List.length_range] at this
      exact this
    refine ⟨by omega, ?_⟩
    refine lcW_both (t := fun _ => !decide (line = [])) (g := fun t => (t + 1, ev line (t + 1) % p)) (fun j t c'' ej Q' q' => ⟨by show 0 ≤ sizeLine; decide, ⟨shp _, shp _⟩, q'⟩) (fun j t c'' ej ht Q' q' => ?_) ?_
    · have hl : line ≠ [] := by simpa using ht
      exact ⟨_, hW t (hct t (List.mem_of_getElem? ej)) hl, q'⟩
    · refine and_b (x := !decide (line = [])) (y := false) (fun Q z => ⟨by show 0 ≤ sizeLine; decide, ⟨shp _, shp _⟩, z⟩) (fun hl Q z => ?_) ?_
      · have hl : line ≠ [] := by simpa using hl
        have ed : (trees.filter fun _ => !decide (line = [])).map (fun t => (t + 1, ev line (t + 1) % p)) = valsAt p line (trees.map (· + 1)) := by
          unfold valsAt
          rw [List.filter_eq_self.mpr (fun _ _ => by simp [hl]), List.map_map]
          rfl
        show rtW p line.length ((trees.filter fun _ => !decide (line = [])).map (fun t => (t + 1, ev line (t + 1) % p))) 0 _
        rw [ed]
        refine rt_w hp h9 rfl (by rw [List.length_map]; omega) (by rw [List.length_map]; omega) (fun x hx => ?_) hlt ?_ ?_
        · obtain ⟨t, ht, rfl⟩ := List.mem_map.mp hx
          have := hct t ht
          show t + 1 < _
          omega
        · rw [List.pairwise_map]
          refine List.Pairwise.imp_of_mem (fun {a b} ha hb hab z => ?_) hnd
          have h1 := hct a ha
          have h2 := hct b hb
          obtain ⟨k, hk⟩ := z
          have : (b : Int) - a = p * k := by rw [← hk]; show (b : Int) - a = ((b + 1 : Nat) : Int) - ((a + 1 : Nat) : Int); omega
          have hk0 : k = 0 := by
            rcases Int.lt_trichotomy k 0 with z | z | z
            · have : (p : Int) * k ≤ p * (-1) := Int.mul_le_mul_of_nonneg_left (by omega) (by omega)
              omega
            · exact z
            · have : (p : Int) * 1 ≤ p * k := Int.mul_le_mul_of_nonneg_left (by omega) (by omega)
              omega
          rw [hk0, Int.mul_zero] at this
          exact hab (by omega)
        · refine ⟨⟨shp _, shp _⟩, ?_⟩
          show Q (!decide (some line = some line)) _
          rw [decide_eq_true rfl]
          exact z
      · rw [Bool.and_false]
        exact seq_skip rfl (qq _ _ rfl)
  · rintro ⟨⟩ c' rfl
    exact h
theorem sortN_mem {xs : List Nat} {z : Nat} : z ∈ sortN xs ↔ z ∈ xs := (List.mergeSort_perm _ _).mem_iff
theorem sortN_len {xs : List Nat} : (sortN xs).length = xs.length := (List.mergeSort_perm _ _).length_eq
theorem jri_w {q one few home c : Nat} {P : Bool → Nat → Prop} (hq : 0 < q) (hq6 : q ≤ 6) (ho : one < 2 ^ q) (hh : home < 2 ^ q) (h : P true c) : jriW q one few home c P := by
  rw [jriW_eq]
  unfold jriB
  simp only [eqv_dec]
  have h24 : sizeLine = 16777216 := rfl
  refine ⟨by omega, by rw [List.length_range]; omega, ?_⟩
  refine lcW_map (g := fun t => one ^^^ 2 ^ lstK q (one ^^^ home) t) (fun i t c' e Q z => tel_w hq (by omega) ho hh (List.mem_range.mp (List.mem_of_getElem? e)) z) ?_
  refine ⟨by omega, lot_w (by rw [List.length_range]; omega) fun Ls hLs => ?_⟩
  refine seq_for (xs := Ls) (fun i (s : Unit) c' => c' = c) rfl ?_ ?_
  · rintro i trees ⟨⟩ c' e rfl Q qq
    obtain ⟨hsub, _⟩ := hLs trees (List.mem_of_getElem? e)
    have ht : ∀ t ∈ trees, t < q := fun t ht => List.mem_range.mp (hsub.subset ht)
    have htl : trees.length ≤ q := by
      have := hsub.length_le
      rw [List.length_range] at this
      exact this
    refine ⟨by omega, ?_⟩
    refine lcW_map (g := fun t => one ^^^ 2 ^ lstK q (one ^^^ home) t) (fun j t c'' ej Q' q' => ⟨_, ?_, q'⟩) ?_
    · show ((List.range q).map fun t => one ^^^ 2 ^ lstK q (one ^^^ home) t)[t]? = _
      rw [List.getElem?_map, List.getElem?_range (ht t (List.mem_of_getElem? ej))]
      rfl
    refine seq_if (fun hb => ?_) (fun hb => qq _ _ rfl)
    have hne : home ∉ trees.map fun t => one ^^^ 2 ^ lstK q (one ^^^ home) t := by
      have : (!decide (home ∈ trees.map fun t => one ^^^ 2 ^ lstK q (one ^^^ home) t)) = true := hb
      simpa using this
    refine ⟨by omega, by rw [List.length_range]; omega, ?_⟩
    refine lcW_filter (t := fun j => !decide (j ∈ trees)) (fun j t c'' ej Q' q' => q') ?_
    refine cam_w hq (by omega) ho hh (fun o ho' => ?_) (by rw [sortN_len, List.length_map]; omega) ?_
    · obtain ⟨t, h1, rfl⟩ := List.mem_map.mp (sortN_mem.mp ho')
      exact Nat.xor_lt_two_pow ho (Nat.pow_lt_pow_right (by decide) (lstK_lt (ht t h1)))
    refine ⟨⟨shp _, shp _⟩, ?_⟩
    have ec : camF q one home (sortN (trees.map fun t => one ^^^ 2 ^ lstK q (one ^^^ home) t)) = (List.range q).filter fun j => !decide (j ∈ trees) := cam_tellers hq ho hh (fun o => by
      rw [sortN_mem, List.mem_map]
      exact ⟨fun ⟨t, h1, h2⟩ => ⟨t, h1, h2.symm⟩, fun ⟨t, h1, h2⟩ => ⟨t, h1, h2.symm⟩⟩) (fun z => hne (sortN_mem.mp z)) ht
    refine seq_skip ?_ (qq _ _ rfl)
    show (!decide (camF q one home (sortN (trees.map fun t => one ^^^ 2 ^ lstK q (one ^^^ home) t)) = (List.range q).filter fun j => !decide (j ∈ trees))) = false
    rw [ec, decide_eq_true rfl]
    rfl
  · rintro ⟨⟩ c' rfl
    exact h
theorem law_win : ∀ ns : List Int, ns.length ≤ 63 → outW (lawB ns) 0 fun r _ => r = true := fun ns hns => by
  unfold lawB
  have h24 : sizeLine = 16777216 := rfl
  have hk : max 1 (min 2 ns.length) < 4611686018427387904 := by omega
  refine ⟨hk, ?_⟩
  refine seq_for (xs := List.range (max 1 (min 2 ns.length))) (fun i (s : Unit) c' => c' = 0) rfl ?_ ?_
  · rintro i nth ⟨⟩ c' e rfl Q qq
    have hn := List.mem_range.mp (List.mem_of_getElem? e)
    refine ⟨⟨hns, by omega⟩, ?_⟩
    refine ⟨by show 8 ≤ sizeLine; decide, ⟨by show 0 < 8; decide, by show 8 < 1073741824; decide, by decide⟩, fun wf hwf => ?_⟩
    have hw : ∀ x ∈ ([(3, 1), (3, 2), (4, 1), (2, 1), (3, 3), (4, 2), (2, 2), (3, 0)] : List (Nat × Nat)), 0 < x.1 ∧ x.1 ≤ 4 ∧ x.2 ≤ x.1 := by decide
    obtain ⟨h1, h4, h2⟩ := hw wf hwf
    obtain ⟨q, few⟩ := wf
    have h1 : 0 < q := h1
    have h4 : q ≤ 4 := h4
    have h2 : few ≤ q := h2
    refine fi_w (by show q ≤ 60; omega) (by decide) fun p hpl hqp => ori_w (by show q ≤ 60; omega) (by decide) fun home hhome => ?_
    have hqp : q < p := hqp
    have hhome : home < 2 ^ q := hhome
    have hp : IsP p := plist_p p hpl
    have h9 := (prL_ok p hpl).2
    have hq64 : 2 ^ q ≤ 2 ^ 4 := Nat.pow_le_pow_right (by decide) h4
    have h16 : (2 : Nat) ^ 4 = 16 := by decide
    refine tlb_w (nu_w hp.two h9 (by show q - few ≤ 1000; omega) (by show _ + 2 * (q - few) < 100000; omega) fun line hll hlt => ?_)
    have hll : line.length = q - few := hll
    refine ⟨⟨rfl, by show q ≤ 134217727; omega⟩, by show 2 ^ q < 4611686018427387904; omega, by show (List.range (2 ^ q)).length ≤ sizeLine; rw [List.length_range]; omega, ?_⟩
    refine lcW_filter (t := fun one => !decide (one = home)) (fun j t c'' ej Q' q' => q') ?_
    refine lot_w ?_ fun Ls hLs => ?_
    · have := List.length_filter_le (fun one => !decide (one = home)) (List.range (2 ^ q))
      rw [List.length_range] at this
      show ((List.range (2 ^ q)).filter fun one => !decide (one = home)).length ≤ 20
      omega
    refine seq_for (xs := Ls) (fun i (s : Unit) c' => True) trivial ?_ ?_
    · rintro j shut ⟨⟩ c'' ej _ Q' q'
      obtain ⟨hsub, hsl⟩ := hLs shut (List.mem_of_getElem? ej)
      have hsl : shut.length = few := hsl
      refine lri_w hp h9 hqp h1 (by omega) hhome (fun o ho => ?_) hlt (by omega) ?_
      · exact List.mem_range.mp (List.mem_filter.mp (hsub.subset ho)).1
      · exact seq_skip rfl (q' _ _ trivial)
    · rintro ⟨⟩ c'' _
      refine ⟨⟨rfl, by show q ≤ 134217727; omega⟩, by show 2 ^ q < 4611686018427387904; omega, ?_⟩
      refine seq_for (xs := List.range (2 ^ q)) (fun i (s : Unit) c' => True) trivial ?_ ?_
      · rintro j one ⟨⟩ c3 ej _ Q' q'
        have hone := List.mem_range.mp (List.mem_of_getElem? ej)
        refine and_b (x := !decide (one = home)) (y := false) (fun Q z => z) (fun _ Q z => jri_w h1 (by show q ≤ 6; omega) hone hhome z) ?_
        rw [Bool.and_false]
        exact seq_skip rfl (q' _ _ trivial)
      · rintro ⟨⟩ c3 _
        exact qq _ _ rfl
  · rintro ⟨⟩ c' rfl
    exact rfl

end Bf
namespace Bf
open PySem PySem.Spec PyProof.Rows L2 LamX
/-- what is tracked at the law's call: the tables ts, empty; the script at a, locked, where it isn't written -/
def G0 (K : PySem.W.Frag) (ts : List Addr) (a : Addr) (ob : Obj) (xs : List V) : Hp := fun b =>
  if b ∈ ts then some (.tbl #[]) else if b = a ∧ (K.lookup a).isNone = true then some (.frz ob (.lst xs)) else none
section
variable {K : PySem.W.Frag} {ts : List Addr} {a b : Addr} {ob : Obj} {xs : List V}
theorem g0_tab (h : b ∈ ts) : G0 K ts a ob xs b = some (.tbl #[]) := if_pos h
theorem g0_scr (h : a ∉ ts) (n : K.lookup a = none) : G0 K ts a ob xs a = some (.frz ob (.lst xs)) := (if_neg h).trans (if_pos ⟨rfl, by rw [n]; rfl⟩)
theorem g0_some {u : HO} (h : G0 K ts a ob xs b = some u) : (b ∈ ts ∧ u = .tbl #[]) ∨ (b ∉ ts ∧ b = a ∧ K.lookup a = none ∧ u = .frz ob (.lst xs)) := by
  unfold G0 at h
  by_cases m : b ∈ ts
  · rw [if_pos m] at h
    exact .inl ⟨m, (Option.some.inj h).symm⟩
  · rw [if_neg m] at h
    by_cases c : b = a ∧ (K.lookup a).isNone = true
    · rw [if_pos c] at h
      exact .inr ⟨m, c.1, Option.isNone_iff_eq_none.mp c.2, (Option.some.inj h).symm⟩
    · rw [if_neg c] at h
      cases h
end
theorem law_tabs {P : Program} {w : World} {K : PySem.W.Frag} {mg mb : Str → Option Value} {k : Nat} {fa a : Addr} {cs : List (Addr × Addr)} {fd : FuncData} {x : Str} {sp : Sp} {z : Shared} {vs : List Value} {ns : List Int}
    (KI : K.In z.heap) (n1 : z.heap.Ns mainGlobals mg) (n2 : z.heap.Ns builtinsNs mb) (n3 : ∀ y : Str, y ≠ "__name__" → mb y = bootBuiltins y) (n4 : z.heap.NoLimit) (n5 : z.gens = #[])
    (t1 : ∀ p ∈ cs, z.heap.get? p.2 = some { cls := .none, data := .fields #[] }) (t2 : ∀ p ∈ cs, K.lookup p.2 = none) (t3 : ∀ p ∈ cs, PySem.W.CodeHd z.heap p.1 p.2)
    (t4 : ∃ (bm : Addr) (ob : Obj), mg "__builtins__" = some (.ref bm) ∧ bm ≠ builtinsNs ∧ z.heap.get? bm = some ob ∧ ob.cls = .type "module" ∧ ob.dict = some builtinsNs ∧ ob.data = .plain)
    (oa : z.heap.get? a = some { cls := .type "list", data := .seq vs.toArray }) (ia : IntsAre vs ns) (la : ns.length ≤ sizeLine) (rm : Room k callerA)
    (F : ∀ base : Heap, K.In base → base.Ns mainGlobals mg → (∀ p ∈ cs, TabB base mg p.1 p.2) → FnG P w K mg base k fa fd [x] sp) (bd : ∀ (s : Shared) (u : Value), BindsTo s fd ⟨[u], []⟩ [(x, u)])
    (hs : ∀ G : Hp, (∀ p ∈ cs, G p.2 = some (.tbl #[])) → SqL K G a (ns.map V.int) → sp [.ref a] G (fun v _ => v = .bl true) fun _ _ _ => False) :
    codeAny (model P w) callerA (.call (.ref fa) ⟨[.ref a], []⟩) (fun r y => r = .ok (.ret (.bool true)) ∧ OldK z.heap y.heap ∧ y.os = z.os ∧ AllBare y.gens) z := by
  have tm : ∀ b ∈ cs.map (·.2), ∃ p ∈ cs, p.2 = b := fun b h => by
    obtain ⟨p, hp, e⟩ := List.mem_map.mp h
    exact ⟨p, hp, e⟩
  have nat : a ∉ cs.map (·.2) := fun h => by
    obtain ⟨p, hp, e⟩ := tm a h
    have q := t1 p hp
    rw [e, oa] at q
    cases q
  generalize hG : G0 K (cs.map (·.2)) a { cls := .type "list", data := .seq vs.toArray } (ns.map V.int) = G
  have some' : ∀ {b u}, G b = some u → (b ∈ cs.map (·.2) ∧ u = .tbl #[]) ∨ (b ∉ cs.map (·.2) ∧ b = a ∧ K.lookup a = none ∧ u = .frz { cls := .type "list", data := .seq vs.toArray } (.lst (ns.map V.int))) := fun {b u} h => g0_some (hG ▸ h)
  have tabG : ∀ p ∈ cs, G p.2 = some (.tbl #[]) := fun p hp => hG ▸ g0_tab (List.mem_map.mpr ⟨p, hp, rfl⟩)
  have rv := vals_ints ia
  have sq : SqL K G a (ns.map V.int) := by
    cases e : K.lookup a with
    | none => exact .inl (.inr ⟨_, hG ▸ g0_scr nat e⟩)
    | some o =>
      have q := KI a o e
      rw [oa] at q
      cases q
      exact .inr ⟨_, vs.toArray, _, e, rfl, rfl, rfl, by rw [List.size_toArray, ia.length]; exact la, by simpa using rv⟩
  have ok : HOk P w G z.heap := fun b u e => by
    rcases some' e with ⟨m, rfl⟩ | ⟨_, rfl, _, rfl⟩
    · obtain ⟨p, hp, rfl⟩ := tm b m
      exact t1 p hp
    · exact ⟨oa, by rw [List.length_map]; exact la, vs, _, rv, oa⟩
  -- what is neither a list nor an empty table isn't tracked
  have off : ∀ {b : Addr} {o : Obj}, z.heap.get? b = some o → (∀ us n, o.data ≠ .seq us n) → o.data ≠ .fields #[] → G b = none := fun {b o} e d1 d2 => by
    cases q : G b with
    | none => rfl
    | some u =>
      rcases some' q with ⟨m, _⟩ | ⟨_, rfl, _, _⟩
      · obtain ⟨p, hp, rfl⟩ := tm b m
        rw [t1 p hp] at e
        cases e
        exact (d2 rfl).elim
      · rw [oa] at e
        cases e
        exact (d1 _ _ rfl).elim
  have stay : ∀ {b : Addr} {o : Obj}, z.heap.get? b = some o → (∀ us n, o.data ≠ .seq us n) → o.data ≠ .fields #[] → (hidT z.heap G).get? b = some o := fun e d1 d2 => hidT_get e (off e d1 d2)
  have nsB : ∀ {b : Addr} {m : Str → Option Value}, z.heap.Ns b m → (hidT z.heap G).Ns b m := fun ⟨o, es, ep, e, d, r⟩ => ⟨o, es, ep, stay e (fun us n y => by rw [d] at y; cases y) (fun y => by rw [d] at y; cases y), d, r⟩
  have inB : K.In (hidT z.heap G) := fun b o e => hidT_get (KI b o e) (by
    cases q : G b with
    | none => rfl
    | some u =>
      rcases some' q with ⟨m, _⟩ | ⟨_, rfl, n, _⟩
      · obtain ⟨p, hp, rfl⟩ := tm b m
        rw [t2 p hp] at e
        cases e
      · rw [n] at e
        cases e)
  have tbB : ∀ p ∈ cs, TabB (hidT z.heap G) mg p.1 p.2 := fun p hp => by
    refine ⟨?_, ?_, fun y => ?_⟩
    · obtain ⟨o, us, file, tf, flags, tg, inF, text, tt, e1, r1, r2, r3, rest⟩ := t3 p hp
      refine ⟨o, us, file, tf, flags, tg, inF, text, tt, stay e1 (fun us n y => by rw [r2] at y; cases y) (fun y => ?_), r1, r2, r3, rest⟩
      rw [r2] at y
      cases y
      simp at r3
    · obtain ⟨bm, om, b1, b2, b3, b4, b5, b6⟩ := t4
      refine ⟨bm, om, b1, b2, fun y => ?_, fun y => ?_, stay b3 (fun us n y => by rw [b6] at y; cases y) (fun y => by rw [b6] at y; cases y), b4, b5, b6⟩
      · obtain ⟨o, es, ep, e, d, _⟩ := n1
        rw [y, e] at b3
        cases b3
        rw [d] at b6
        cases b6
      · rw [y, t1 p hp] at b3
        cases b3
        cases b6
    · obtain ⟨o, es, ep, e, d, _⟩ := n1
      rw [y, t1 p hp] at e
      cases e
      cases d
  have md : L2.Mod K mg (hidT z.heap G) := ⟨inB, nsB n1, ⟨mb, nsB n2, n3⟩, let ⟨mc, c1, c2⟩ := n4; ⟨mc, nsB c1, c2⟩⟩
  have en : Env0 P w K mg (hidT z.heap G) callerA [] z G := ⟨rfl, md, fun _ _ e => of_hidT e, Nat.le_of_eq (hidT_size _ _), trivial, (fun b h => absurd (show b ∈ ([] : List Addr) from h) List.not_mem_nil), ok, .of_eq n5⟩
  refine codeAny_mono ((F _ inB (nsB n1) tbB).go callerA [] z G ⟨[.ref a], []⟩ [.ref a] [.ref a] _ _ rfl rm en (bd z (.ref a)) (.cons rfl .nil) (hs G tabG sq)) fun r y h => ?_
  match r, h with
  | .error _, h => exact h.elim
  | .ok .next, h => exact False.elim h
  | .ok .brk, h => exact False.elim h
  | .ok .cont, h => exact False.elim h
  | .ok (.ret u), h =>
    obtain ⟨v, G', e1, e2, un, ok', r', q⟩ := h
    obtain rfl : v = .bl true := q
    obtain rfl : u = Value.bool true := r'
    -- an object that stood before: a table may have grown, all else is as it was
    have old : ∀ b o, z.heap.get? b = some o → (b ∈ cs.map (·.2) ∧ ∃ more : Array Value, y.heap.get? b = some { cls := .none, data := .fields more }) ∨ y.heap.get? b = some o := fun b o e => by
      cases q : G b with
      | none => exact .inr (un.keep b o e q (fun h => absurd (show b ∈ ([] : List Addr) from h) List.not_mem_nil) List.not_mem_nil)
      | some u =>
        rcases some' q with ⟨m, rfl⟩ | ⟨_, rfl, _, rfl⟩
        · obtain ⟨more, g⟩ := un.tbls b #[] q
          exact .inl ⟨m, _, ok' b _ g⟩
        · rw [oa] at e
          cases e
          exact .inr (ok' b _ (un.frzs b _ _ q)).1
    refine ⟨rfl, ⟨fun b o e => ?_, fun b o e => ?_⟩, e1, e2⟩
    · rcases old b o e with ⟨m, more, g⟩ | g
      · obtain ⟨p, hp, rfl⟩ := tm b m
        rw [t1 p hp] at e
        cases e
        exact .inr (.inl ⟨((t3 p hp).tab (t1 p hp)).isCodeTable, rfl, #[], more, rfl, by rw [Array.empty_append]; exact g⟩)
      · exact .inl g
    · rcases old b o e with ⟨_, more, g⟩ | g
      · exact ⟨_, g⟩
      · exact ⟨o, g⟩
theorem walkTG {l : PySem.W.OpenLaw} {n k : Nat} {q : Program} {loose : List Str} {XP : (Str → Option Value) → Heap → Prop} {YP : World → Heap → Prop} {d : DefRec} {x : Str} (hn : l.most = some n) (hn2 : n ≤ sizeLine) (hdf : d.params.defaults = []) (rm : Room k callerA)
    (F : ∀ (w : World) (mg : Str → Option Value) (fa : Addr) (h : Heap), YP w h → h.Ns mainGlobals mg → mg d.name = some (.ref fa) → ∃ (K : PySem.W.Frag) (fd : FuncData) (cs : List (Addr × Addr)) (sp : Sp), K.In h ∧
      (∀ p ∈ cs, h.get? p.2 = some { cls := .none, data := .fields #[] }) ∧ (∀ p ∈ cs, K.lookup p.2 = none) ∧ (∀ p ∈ cs, PySem.W.CodeHd h p.1 p.2) ∧ (∀ (s : Shared) (u : Value), BindsTo s fd ⟨[u], []⟩ [(x, u)]) ∧
      (∀ (H : Hp) (a : Addr) (ns : List Int), ns.length ≤ n → (∀ p ∈ cs, H p.2 = some (.tbl #[])) → SqL K H a (ns.map V.int) → sp [.ref a] H (fun v _ => v = .bl true) fun _ _ _ => False) ∧
      ∀ base : Heap, K.In base → base.Ns mainGlobals mg → (∀ p ∈ cs, TabB base mg p.1 p.2) → FnG l.prog w K mg base k fa fd [x] sp) : PySem.W.WalkO q loose XP YP l.row.toRowW d [] (fun f vs => PySem.call f vs) := by
  refine Att.attach_call hn hdf fun w s₀ s₁ mg mb fa o pm cd doc a vs ns G Y ho hd hcd hmg hobj hints hlen hg => ?_
  obtain ⟨K, fd, cs, sp, KX, t1, t2, t3, t4, t5, t6⟩ := F w mg fa _ Y G.T.g hmg
  exact law_tabs KX G.T.g G.T.b G.T.builtins G.T.nolimit hg t1 t2 t3 G.T.bmain hobj hints (Nat.le_trans hlen hn2) rm t6 t4 (fun H hH hS => t5 H a ns hlen hH hS)
end Bf
namespace Bf
open PySem PySem.Spec PyProof.Rows L2 LamX NdefX
theorem fun_of {K : PySem.W.Frag} {x : Str} {st : Stmt} {f : Addr} {fd : FuncData} (F : FunD K x x (defArgs st) (defBody st) (defScope st) [] [] f fd) : Fun K x x st f fd := by
  obtain ⟨oc, od, dV, kV, doc, pm, an, cdv, ct, osl, e, lk, hcd, hD, hK⟩ := F.ex
  rcases hD with ⟨_, rfl⟩ | ⟨z, _⟩
  · exact ⟨⟨oc, od, kV, doc, pm, an, cdv, ct, osl, e, lk, hcd⟩, F.kp⟩
  · exact absurd rfl z
theorem walkTE {l : PySem.W.OpenLaw} {n k : Nat} {q : Program} {loose : List Str} {XP : (Str → Option Value) → Heap → Prop} {YP : World → Heap → Prop} {d : DefRec} {x : Str} (hn : l.most = some n) (hn2 : n ≤ sizeLine) (hdf : d.params.defaults = []) (rm : Room k callerA)
    (F : ∀ (w : World) (mg : Str → Option Value) (fa : Addr) (h : Heap), YP w h → h.Ns mainGlobals mg → mg d.name = some (.ref fa) → ∃ K : PySem.W.Frag, K.In h ∧ LawAtS l w K CX0 k n x mg fa h) : PySem.W.WalkO q loose XP YP l.row.toRowW d [] (fun f vs => PySem.call f vs) := by
  refine Att.attach_callB hn hdf fun w s₀ s₁ mg mb fa o pm cd doc a vs ns G Y ho hd hcd hmg hobj hints hlen hbits hg => ?_
  obtain ⟨K, KX, fd, cs, sp, t1, t2, t3, t4, t5, t6⟩ := F w mg fa _ Y G.T.g hmg
  exact law_callTs KX G.T.g G.T.b G.T.builtins G.T.nolimit hg t1 t2 t3 G.T.bmain hobj hints (Nat.le_trans hlen hn2) rm t6 t4 (fun H hH hS => t5 H a ns hlen hbits hH hS) (fun _ _ _ z => z)
def dd0 : He.DefD := ⟨("spoilt", none), "spoilt", "spoilt", defArgs sSpl, defBody sSpl, defScope sSpl, [], [("source", He.Dv.int 0)]⟩
def dd1 : He.DefD := ⟨("tree_through", none), "tree_through", "tree_through", defArgs sTth, defBody sTth, defScope sTth, [], []⟩
def dd2 : He.DefD := ⟨("only_tree", none), "only_tree", "only_tree", defArgs sOly, defBody sOly, defScope sOly, [], []⟩
def dd3 : He.DefD := ⟨("is_on_way", none), "is_on_way", "is_on_way", defArgs sIow, defBody sIow, defScope sIow, [], []⟩
def dd4 : He.DefD := ⟨("turned", none), "turned", "turned", defArgs sTur, defBody sTur, defScope sTur, [], []⟩
def dd5 : He.DefD := ⟨("first_place", none), "first_place", "first_place", defArgs sFip, defBody sFip, defScope sFip, [], []⟩
def dd6 : He.DefD := ⟨("last_place", none), "last_place", "last_place", defArgs sLap, defBody sLap, defScope sLap, [], []⟩
def dd7 : He.DefD := ⟨("raised", none), "raised", "raised", defArgs sRai, defBody sRai, defScope sRai, [], []⟩
def dd8 : He.DefD := ⟨("inverse", none), "inverse", "inverse", defArgs sInv, defBody sInv, defScope sInv, [], []⟩
def dd9 : He.DefD := ⟨("value", none), "value", "value", defArgs sVal, defBody sVal, defScope sVal, [], []⟩
def dd10 : He.DefD := ⟨("values", none), "values", "values", defArgs sVas, defBody sVas, defScope sVas, [], []⟩
def dd11 : He.DefD := ⟨("with_root", none), "with_root", "with_root", defArgs sWr, defBody sWr, defScope sWr, [], []⟩
def dd12 : He.DefD := ⟨("through", none), "through", "through", defArgs sTg, defBody sTg, defScope sTg, [], []⟩
def dd13 : He.DefD := ⟨("row_through", none), "row_through", "row_through", defArgs sRt, defBody sRt, defScope sRt, [], []⟩
def dd14 : He.DefD := ⟨("letters", none), "letters", "letters", defArgs sLet, defBody sLet, defScope sLet, [], []⟩
def dd15 : He.DefD := ⟨("came", none), "came", "came", defArgs sCam, defBody sCam, defScope sCam, [], [("source", He.Dv.int 0)]⟩
def dd16 : He.DefD := ⟨("tellable", none), "tellable", "tellable", defArgs sTlb, defBody sTlb, defScope sTlb, [], []⟩
def dd17 : He.DefD := ⟨("bits", none), "bits", "bits", defArgs sBits, defBody sBits, defScope sBits, [], []⟩
def dd18 : He.DefD := ⟨("has_bit", none), "has_bit", "has_bit", defArgs sHab, defBody sHab, defScope sHab, [], []⟩
def dd19 : He.DefD := ⟨("arc", none), "arc", "arc", defArgs sArq, defBody sArq, defScope sArq, [], []⟩
def dd20 : He.DefD := ⟨("round_bits", none), "round_bits", "round_bits", defArgs sRbd, defBody sRbd, defScope sRbd, [], []⟩
def dd21 : He.DefD := ⟨("across", none), "across", "across", defArgs sAcr, defBody sAcr, defScope sAcr, [], []⟩
def dd22 : He.DefD := ⟨("crossed", none), "crossed", "crossed", defArgs sCrs, defBody sCrs, defScope sCrs, [], [("source", He.Dv.int 0)]⟩
def dd23 : He.DefD := ⟨("teller", none), "teller", "teller", defArgs sTel, defBody sTel, defScope sTel, [], [("source", He.Dv.int 0)]⟩
def dd24 : He.DefD := ⟨("_law_urn", none), "_law_urn", "_law_urn", defArgs sPot, defBody sPot, defScope sPot, [], []⟩
def dd25 : He.DefD := ⟨("_law_take", none), "_law_take", "_law_take", defArgs sTake, defBody sTake, defScope sTake, [], []⟩
def dd26 : He.DefD := ⟨("_law_of", none), "_law_of", "_law_of", defArgs sOf, defBody sOf, defScope sOf, [], []⟩
def dd27 : He.DefD := ⟨("_law_field", none), "_law_field", "_law_field", defArgs sFi, defBody sFi, defScope sFi, [], []⟩
def dd28 : He.DefD := ⟨("_law_numbers", none), "_law_numbers", "_law_numbers", defArgs sNu, defBody sNu, defScope sNu, [], []⟩
def dd29 : He.DefD := ⟨("_law_origin", none), "_law_origin", "_law_origin", defArgs sOri, defBody sOri, defScope sOri, [], []⟩
def dd30 : He.DefD := ⟨("_law_lots", none), "_law_lots", "_law_lots", defArgs sLot, defBody sLot, defScope sLot, [], []⟩
def dd31 : He.DefD := ⟨("_law_lot_right", none), "_law_lot_right", "_law_lot_right", defArgs sLri, defBody sLri, defScope sLri, [], []⟩
def dd32 : He.DefD := ⟨("_law_just_right", none), "_law_just_right", "_law_just_right", defArgs sJri, defBody sJri, defScope sJri, [], []⟩
def dd33 : He.DefD := ⟨("law", none), "law", "law", defArgs sLaw, defBody sLaw, defScope sLaw, [], []⟩
def fnL : List He.DefD := [dd0, dd1, dd2, dd3, dd4, dd5, dd6, dd7, dd8, dd9, dd10, dd11, dd12, dd13, dd14, dd15, dd16, dd17, dd18, dd19, dd20, dd21, dd22, dd23, dd24, dd25, dd26, dd27, dd28, dd29, dd30, dd31, dd32, dd33]
def faL : List He.Fa := [.glo "spoilt", .glo "tree_through", .glo "only_tree", .glo "is_on_way", .glo "turned", .glo "first_place", .glo "last_place", .glo "raised", .glo "inverse", .glo "value", .glo "values", .glo "with_root", .glo "through", .glo "row_through", .glo "letters", .glo "came", .glo "tellable", .glo "bits", .glo "has_bit", .glo "arc", .glo "round_bits", .glo "across", .glo "crossed", .glo "teller", .glo "_law_urn", .glo "_law_take", .glo "_law_of", .glo "_law_field", .glo "_law_numbers", .glo "_law_origin", .glo "_law_lots", .glo "_law_lot_right", .glo "_law_just_right", .glo "law", .free "len", .free "tuple", .free "list", .free "range", .free "min", .free "max", .free "abs", .free "int", .free "all", .free "any", .free "zip", .free "enumerate", .free "reversed", .free "repr", .free "sorted", .free "sum", .free "set"]
def tfL : List He.Defn := [("round_bits", none)]
abbrev RR : PySem.W.OpenRow := PySem.W.OpenLaw.row PySem.Challenge.rw_beatferry_k85_whole_whoever_is_silent
abbrev hkL : PySem.W.Hook := He.hookX 4 faL fnL [] tfL (fun _ => true)
def obL (s : PySem.W.SharedT) : He.AlX := He.obsX 4 faL fnL [] tfL (fun _ => true) (HandSHeadRun.getT s)
theorem obL_eq (s : PySem.W.SharedT) : obL s = hkL.obs s.abs := He.obsX_eq (HandSHeadRun.getT_eq s)
theorem runL (w : World) : HandSHeadRun.RunEq RR (PySem.W.view RR.prog [44]) hkL obL 5000 (("NotSo" : Str) :: ("NoInverse" : Str) :: ("TooFew" : Str) :: ("spoilt" : Str) :: ("tree_through" : Str) :: ("only_tree" : Str) :: ("is_on_way" : Str) :: ("turned" : Str) :: ("first_place" : Str) :: ("last_place" : Str) :: ("raised" : Str) :: ("inverse" : Str) :: ("value" : Str) :: ("values" : Str) :: ("with_root" : Str) :: ("through" : Str) :: ("row_through" : Str) :: ("letters" : Str) :: ("came" : Str) :: ("tellable" : Str) :: ("bits" : Str) :: ("has_bit" : Str) :: ("arc" : Str) :: ("round_bits" : Str) :: ("across" : Str) :: ("crossed" : Str) :: ("teller" : Str) :: ("_law_urn" : Str) :: ("_law_take" : Str) :: ("_law_of" : Str) :: ("_law_field" : Str) :: ("_law_numbers" : Str) :: ("_law_origin" : Str) :: ("_law_lots" : Str) :: ("_law_lot_right" : Str) :: ("_law_just_right" : Str) :: []) w := by
  intro os
  kernel_rfl
theorem facts {l : PySem.W.OpenLaw} {w : World} {K : PySem.W.Frag} {h : Heap} {mg : Str → Option Value} {fa : Addr} (X : K.In h) (G : h.Ns mainGlobals mg) (hfa : mg ("law" : Str) = some (.ref fa)) (c : He.SaysX faL fnL [] tfL (fun _ => true) w h K) : LawAtS l w K CX0 9 63 "_law_script" mg fa h := by
  have cd := c.t.d
  obtain ⟨e0, F0⟩ := cd.def_ 0 (d := dd0) rfl
  have g0 := He.glo_ok X G (cd.fact 0 (f := .glo "spoilt") rfl)
  obtain ⟨e1, F1⟩ := cd.def_ 1 (d := dd1) rfl
  have g1 := He.glo_ok X G (cd.fact 1 (f := .glo "tree_through") rfl)
  obtain ⟨e2, F2⟩ := cd.def_ 2 (d := dd2) rfl
  have g2 := He.glo_ok X G (cd.fact 2 (f := .glo "only_tree") rfl)
  obtain ⟨e3, F3⟩ := cd.def_ 3 (d := dd3) rfl
  have g3 := He.glo_ok X G (cd.fact 3 (f := .glo "is_on_way") rfl)
  obtain ⟨e4, F4⟩ := cd.def_ 4 (d := dd4) rfl
  have g4 := He.glo_ok X G (cd.fact 4 (f := .glo "turned") rfl)
  obtain ⟨e5, F5⟩ := cd.def_ 5 (d := dd5) rfl
  have g5 := He.glo_ok X G (cd.fact 5 (f := .glo "first_place") rfl)
  obtain ⟨e6, F6⟩ := cd.def_ 6 (d := dd6) rfl
  have g6 := He.glo_ok X G (cd.fact 6 (f := .glo "last_place") rfl)
  obtain ⟨e7, F7⟩ := cd.def_ 7 (d := dd7) rfl
  have g7 := He.glo_ok X G (cd.fact 7 (f := .glo "raised") rfl)
  obtain ⟨e8, F8⟩ := cd.def_ 8 (d := dd8) rfl
  have g8 := He.glo_ok X G (cd.fact 8 (f := .glo "inverse") rfl)
  obtain ⟨e9, F9⟩ := cd.def_ 9 (d := dd9) rfl
  have g9 := He.glo_ok X G (cd.fact 9 (f := .glo "value") rfl)
  obtain ⟨e10, F10⟩ := cd.def_ 10 (d := dd10) rfl
  have g10 := He.glo_ok X G (cd.fact 10 (f := .glo "values") rfl)
  obtain ⟨e11, F11⟩ := cd.def_ 11 (d := dd11) rfl
  have g11 := He.glo_ok X G (cd.fact 11 (f := .glo "with_root") rfl)
  obtain ⟨e12, F12⟩ := cd.def_ 12 (d := dd12) rfl
  have g12 := He.glo_ok X G (cd.fact 12 (f := .glo "through") rfl)
  obtain ⟨e13, F13⟩ := cd.def_ 13 (d := dd13) rfl
  have g13 := He.glo_ok X G (cd.fact 13 (f := .glo "row_through") rfl)
  obtain ⟨e14, F14⟩ := cd.def_ 14 (d := dd14) rfl
  have g14 := He.glo_ok X G (cd.fact 14 (f := .glo "letters") rfl)
  obtain ⟨e15, F15⟩ := cd.def_ 15 (d := dd15) rfl
  have g15 := He.glo_ok X G (cd.fact 15 (f := .glo "came") rfl)
  obtain ⟨e16, F16⟩ := cd.def_ 16 (d := dd16) rfl
  have g16 := He.glo_ok X G (cd.fact 16 (f := .glo "tellable") rfl)
  obtain ⟨e17, F17⟩ := cd.def_ 17 (d := dd17) rfl
  have g17 := He.glo_ok X G (cd.fact 17 (f := .glo "bits") rfl)
  obtain ⟨e18, F18⟩ := cd.def_ 18 (d := dd18) rfl
  have g18 := He.glo_ok X G (cd.fact 18 (f := .glo "has_bit") rfl)
  obtain ⟨e19, F19⟩ := cd.def_ 19 (d := dd19) rfl
  have g19 := He.glo_ok X G (cd.fact 19 (f := .glo "arc") rfl)
  obtain ⟨e20, F20⟩ := cd.def_ 20 (d := dd20) rfl
  have g20 := He.glo_ok X G (cd.fact 20 (f := .glo "round_bits") rfl)
  obtain ⟨e21, F21⟩ := cd.def_ 21 (d := dd21) rfl
  have g21 := He.glo_ok X G (cd.fact 21 (f := .glo "across") rfl)
  obtain ⟨e22, F22⟩ := cd.def_ 22 (d := dd22) rfl
  have g22 := He.glo_ok X G (cd.fact 22 (f := .glo "crossed") rfl)
  obtain ⟨e23, F23⟩ := cd.def_ 23 (d := dd23) rfl
  have g23 := He.glo_ok X G (cd.fact 23 (f := .glo "teller") rfl)
  obtain ⟨e24, F24⟩ := cd.def_ 24 (d := dd24) rfl
  have g24 := He.glo_ok X G (cd.fact 24 (f := .glo "_law_urn") rfl)
  obtain ⟨e25, F25⟩ := cd.def_ 25 (d := dd25) rfl
  have g25 := He.glo_ok X G (cd.fact 25 (f := .glo "_law_take") rfl)
  obtain ⟨e26, F26⟩ := cd.def_ 26 (d := dd26) rfl
  have g26 := He.glo_ok X G (cd.fact 26 (f := .glo "_law_of") rfl)
  obtain ⟨e27, F27⟩ := cd.def_ 27 (d := dd27) rfl
  have g27 := He.glo_ok X G (cd.fact 27 (f := .glo "_law_field") rfl)
  obtain ⟨e28, F28⟩ := cd.def_ 28 (d := dd28) rfl
  have g28 := He.glo_ok X G (cd.fact 28 (f := .glo "_law_numbers") rfl)
  obtain ⟨e29, F29⟩ := cd.def_ 29 (d := dd29) rfl
  have g29 := He.glo_ok X G (cd.fact 29 (f := .glo "_law_origin") rfl)
  obtain ⟨e30, F30⟩ := cd.def_ 30 (d := dd30) rfl
  have g30 := He.glo_ok X G (cd.fact 30 (f := .glo "_law_lots") rfl)
  obtain ⟨e31, F31⟩ := cd.def_ 31 (d := dd31) rfl
  have g31 := He.glo_ok X G (cd.fact 31 (f := .glo "_law_lot_right") rfl)
  obtain ⟨e32, F32⟩ := cd.def_ 32 (d := dd32) rfl
  have g32 := He.glo_ok X G (cd.fact 32 (f := .glo "_law_just_right") rfl)
  obtain ⟨e33, F33⟩ := cd.def_ 33 (d := dd33) rfl
  have g33 := He.glo_ok X G (cd.fact 33 (f := .glo "law") rfl)
  have m0 := He.free_ok X G (cd.fact 34 (f := .free "len") rfl)
  have m1 := He.free_ok X G (cd.fact 35 (f := .free "tuple") rfl)
  have m2 := He.free_ok X G (cd.fact 36 (f := .free "list") rfl)
  have m3 := He.free_ok X G (cd.fact 37 (f := .free "range") rfl)
  have m4 := He.free_ok X G (cd.fact 38 (f := .free "min") rfl)
  have m5 := He.free_ok X G (cd.fact 39 (f := .free "max") rfl)
  have m6 := He.free_ok X G (cd.fact 40 (f := .free "abs") rfl)
  have m7 := He.free_ok X G (cd.fact 41 (f := .free "int") rfl)
  have m8 := He.free_ok X G (cd.fact 42 (f := .free "all") rfl)
  have m9 := He.free_ok X G (cd.fact 43 (f := .free "any") rfl)
  have m10 := He.free_ok X G (cd.fact 44 (f := .free "zip") rfl)
  have m11 := He.free_ok X G (cd.fact 45 (f := .free "enumerate") rfl)
  have m12 := He.free_ok X G (cd.fact 46 (f := .free "reversed") rfl)
  have m13 := He.free_ok X G (cd.fact 47 (f := .free "repr") rfl)
  have m14 := He.free_ok X G (cd.fact 48 (f := .free "sorted") rfl)
  have m15 := He.free_ok X G (cd.fact 49 (f := .free "sum") rfl)
  have m16 := He.free_ok X G (cd.fact 50 (f := .free "set") rfl)
  have ee := hfa.symm.trans g33
  cases ee
  have bL := FunD.bindsA (ps := ["_law_script"]) F33 fun _ _ _ _ _ _ us hl => match us, hl with | [_], _ => rfl
  obtain ⟨oc, od, dV, kV, doc, pm, an, cdv, ct, osl, efd, lk, hcd, hD, hK⟩ := id F20.ex
  obtain ⟨cc, rfl⟩ := He.codeIn_ref hcd
  have ec : He.codeOf K ("round_bits", none) = cc := He.codeOf_eq lk (by rw [efd])
  have FT : FunT K "round_bits" sRound (He.fAd K dd20.at_) e20 cc := by
    rcases hD with ⟨_, rfl⟩ | ⟨z, _⟩
    · exact ⟨⟨oc, od, kV, doc, pm, an, ct, osl, efd, lk, hcd⟩, F20.kp⟩
    · exact absurd rfl z
  have memT : (("round_bits", none) : He.Defn) ∈ tfL := List.mem_singleton.mpr rfl
  refine ⟨e33, [He.cT K ("round_bits", none)], spLawT K [((He.cT K ("round_bits", none)).2, lamNm)], fun p hp => ?_, fun p hp => ?_, fun p hp => ?_, fun s v => bL s [v] rfl, fun H a ns hl _ hH hS => ⟨a, ns, rfl, hS, hl, fun p hp => ?_, fun _ => rfl⟩, fun base _ _ TB => ?_⟩
  · rw [List.mem_singleton.mp hp]; exact c.empty _ memT
  · rw [List.mem_singleton.mp hp]; exact c.out _ memT
  · rw [List.mem_singleton.mp hp]; exact PySem.W.codeHd_of_K X (c.hd _ memT)
  · rw [List.mem_singleton.mp hp]; exact TabS.nil (hH _ (List.mem_singleton.mpr rfl))
  · have TB0 : TabB base mg cc (He.cT K ("round_bits", none)).2 := by
      have z := TB _ (List.mem_singleton.mpr rfl)
      have e1 : (He.cT K ("round_bits", none)).1 = cc := ec
      rw [e1] at z
      exact z
    have f0 : FunS K "spoilt" sSpl _ e0 := F0
    have f1 := fun_of (st := sTth) F1
    have b1 := f1.binds (ps := ["q", "hand", "other", "source"]) fun _ _ _ _ _ _ us hl => match us, hl with | [_, _, _, _], _ => rfl
    have f2 := fun_of (st := sOly) F2
    have b2 := f2.binds (ps := ["q", "apart", "reached"]) fun _ _ _ _ _ _ us hl => match us, hl with | [_, _, _], _ => rfl
    have f3 := fun_of (st := sIow) F3
    have b3 := f3.binds (ps := ["q", "apart", "reached", "j"]) fun _ _ _ _ _ _ us hl => match us, hl with | [_, _, _, _], _ => rfl
    have f4 := fun_of (st := sTur) F4
    have b4 := f4.binds (ps := ["q", "some", "j"]) fun _ _ _ _ _ _ us hl => match us, hl with | [_, _, _], _ => rfl
    have f5 := fun_of (st := sFip) F5
    have b5 := f5.binds (ps := ["some"]) fun _ _ _ _ _ _ us hl => match us, hl with | [_], _ => rfl
    have f6 := fun_of (st := sLap) F6
    have b6 := f6.binds (ps := ["some"]) fun _ _ _ _ _ _ us hl => match us, hl with | [_], _ => rfl
    have f7 := fun_of (st := sRai) F7
    have b7 := f7.binds (ps := ["n", "base", "exponent"]) fun _ _ _ _ _ _ us hl => match us, hl with | [_, _, _], _ => rfl
    have f8 := fun_of (st := sInv) F8
    have b8 := f8.binds (ps := ["p", "n"]) fun _ _ _ _ _ _ us hl => match us, hl with | [_, _], _ => rfl
    have f9 := fun_of (st := sVal) F9
    have b9 := f9.binds (ps := ["p", "row", "x"]) fun _ _ _ _ _ _ us hl => match us, hl with | [_, _, _], _ => rfl
    have f10 := fun_of (st := sVas) F10
    have b10 := f10.binds (ps := ["p", "row", "many"]) fun _ _ _ _ _ _ us hl => match us, hl with | [_, _, _], _ => rfl
    have f11 := fun_of (st := sWr) F11
    have b11 := f11.binds (ps := ["p", "row", "x"]) fun _ _ _ _ _ _ us hl => match us, hl with | [_, _, _], _ => rfl
    have f12 := fun_of (st := sTg) F12
    have b12 := f12.binds (ps := ["p", "pairs"]) fun _ _ _ _ _ _ us hl => match us, hl with | [_, _], _ => rfl
    have f13 := fun_of (st := sRt) F13
    have b13 := f13.binds (ps := ["p", "k", "pairs"]) fun _ _ _ _ _ _ us hl => match us, hl with | [_, _, _], _ => rfl
    have f14 := fun_of (st := sLet) F14
    have b14 := f14.binds (ps := ["p", "q", "rows"]) fun _ _ _ _ _ _ us hl => match us, hl with | [_, _, _], _ => rfl
    have f15 : FunS K "came" sCam _ e15 := F15
    have f16 := fun_of (st := sTlb) F16
    have b16 := f16.binds (ps := ["q", "f"]) fun _ _ _ _ _ _ us hl => match us, hl with | [_, _], _ => rfl
    have f17 := fun_of (st := sBits) F17
    have b17 := f17.binds (ps := ["hand"]) fun _ _ _ _ _ _ us hl => match us, hl with | [_], _ => rfl
    have f18 := fun_of (st := sHab) F18
    have b18 := f18.binds (ps := ["hand", "k"]) fun _ _ _ _ _ _ us hl => match us, hl with | [_, _], _ => rfl
    have f19 := fun_of (st := sArq) F19
    have b19 := f19.binds (ps := ["q", "j", "k"]) fun _ _ _ _ _ _ us hl => match us, hl with | [_, _, _], _ => rfl
    have f20 := fun_of (st := sRbd) F20
    have b20 := f20.binds (ps := ["q", "hand", "j"]) fun _ _ _ _ _ _ us hl => match us, hl with | [_, _, _], _ => rfl
    have f21 := fun_of (st := sAcr) F21
    have b21 := f21.binds (ps := ["hand", "k"]) fun _ _ _ _ _ _ us hl => match us, hl with | [_, _], _ => rfl
    have f22 : FunS K "crossed" sCrs _ e22 := F22
    have f23 : FunS K "teller" sTel _ e23 := F23
    have f24 := fun_of (st := sPot) F24
    have b24 := f24.binds (ps := ["_law_script", "_law_nth"]) fun _ _ _ _ _ _ us hl => match us, hl with | [_, _], _ => rfl
    have f25 := fun_of (st := sTake) F25
    have b25 := f25.binds (ps := ["_law_pot", "_law_size"]) fun _ _ _ _ _ _ us hl => match us, hl with | [_, _], _ => rfl
    have f26 := fun_of (st := sOf) F26
    have b26 := f26.binds (ps := ["_law_pot", "_law_some"]) fun _ _ _ _ _ _ us hl => match us, hl with | [_, _], _ => rfl
    have f27 := fun_of (st := sFi) F27
    have b27 := f27.binds (ps := ["_law_pot", "_law_wide"]) fun _ _ _ _ _ _ us hl => match us, hl with | [_, _], _ => rfl
    have f28 := fun_of (st := sNu) F28
    have b28 := f28.binds (ps := ["_law_pot", "_law_prime", "_law_size"]) fun _ _ _ _ _ _ us hl => match us, hl with | [_, _, _], _ => rfl
    have f29 := fun_of (st := sOri) F29
    have b29 := f29.binds (ps := ["_law_pot", "_law_wide"]) fun _ _ _ _ _ _ us hl => match us, hl with | [_, _], _ => rfl
    have f30 := fun_of (st := sLot) F30
    have b30 := f30.binds (ps := ["_law_some", "_law_size"]) fun _ _ _ _ _ _ us hl => match us, hl with | [_, _], _ => rfl
    have f31 := fun_of (st := sLri) F31
    have b31 := f31.binds (ps := ["_law_prime", "_law_wide", "_law_shut", "_law_line", "_law_home"]) fun _ _ _ _ _ _ us hl => match us, hl with | [_, _, _, _, _], _ => rfl
    have f32 := fun_of (st := sJri) F32
    have b32 := f32.binds (ps := ["_law_wide", "_law_one", "_law_few", "_law_home"]) fun _ _ _ _ _ _ us hl => match us, hl with | [_, _, _, _], _ => rfl
    have f33 := fun_of (st := sLaw) F33
    have b : Bls mg := ⟨m0, m1, m2, m3, m4, m5, m6, m7, m8, m9, m10, m11, m12, m13, m14, m15, m16⟩
    have c_lap : CalF l.prog w K mg base 1 "last_place" _ _ ["some"] (spW1 K [((He.cT K ("round_bits", none)).2, lamNm)] lapW) := ⟨ok_lap f6 b , f6.kp, b6, g6⟩
    have c_fip : CalF l.prog w K mg base 1 "first_place" _ _ ["some"] (spW1 K [((He.cT K ("round_bits", none)).2, lamNm)] fipW) := ⟨ok_fip f5 b , f5.kp, b5, g5⟩
    have c_tur : CalF l.prog w K mg base 1 "turned" _ _ ["q", "some", "j"] (spW3 K [((He.cT K ("round_bits", none)).2, lamNm)] turW) := ⟨ok_tur f4 b , f4.kp, b4, g4⟩
    have c_oly : CalF l.prog w K mg base 2 "only_tree" _ _ ["q", "apart", "reached"] (spW3 K [((He.cT K ("round_bits", none)).2, lamNm)] olyW) := ⟨ok_oly f2 b c_fip c_lap c_tur, f2.kp, b2, g2⟩
    have c_iow : CalF l.prog w K mg base 2 "is_on_way" _ _ ["q", "apart", "reached", "j"] (spW4 K [((He.cT K ("round_bits", none)).2, lamNm)] iowW) := ⟨ok_iow f3 b c_tur, f3.kp, b3, g3⟩
    have c_tth : CalF l.prog w K mg base 3 "tree_through" _ _ ["q", "hand", "other", "source"] (spW4 K [((He.cT K ("round_bits", none)).2, lamNm)] tthW) := ⟨ok_tth f1 b c_iow c_oly, f1.kp, b1, g1⟩
    have c_spl : CalS l.prog w K mg base 4 "spoilt" _ _ ["q", "hand", "lot", "source"] (spW4 K [((He.cT K ("round_bits", none)).2, lamNm)] splW) := ⟨ok_spl f0 b c_tth, f0.kp, g0⟩
    have q_spl_3_0123 := kbN (n := 3) (m := 1) (π := [0, 1, 2, 3]) (ps := ["q", "hand", "lot", "source"]) (ks := ["source"]) f0 (by decide) rfl fun _ _ _ _ _ _ us ws h1 h2 => match us, ws, h1, h2 with | [_, _, _], [_], _, _ => rfl
    have c_rai : CalF l.prog w K mg base 1 "raised" _ _ ["n", "base", "exponent"] (spW3 K [((He.cT K ("round_bits", none)).2, lamNm)] raiW) := ⟨ok_rai f7 b , f7.kp, b7, g7⟩
    have c_inv : CalF l.prog w K mg base 2 "inverse" _ _ ["p", "n"] (spW2 K [((He.cT K ("round_bits", none)).2, lamNm)] invW) := ⟨ok_inv f8 b c_rai, f8.kp, b8, g8⟩
    have c_val : CalF l.prog w K mg base 1 "value" _ _ ["p", "row", "x"] (spW3 K [((He.cT K ("round_bits", none)).2, lamNm)] valW) := ⟨ok_val f9 b , f9.kp, b9, g9⟩
    have c_vas : CalF l.prog w K mg base 2 "values" _ _ ["p", "row", "many"] (spW3 K [((He.cT K ("round_bits", none)).2, lamNm)] vasW) := ⟨ok_vas f10 b c_val, f10.kp, b10, g10⟩
    have c_wr : CalF l.prog w K mg base 1 "with_root" _ _ ["p", "row", "x"] (spW3 K [((He.cT K ("round_bits", none)).2, lamNm)] wrW) := ⟨ok_wr f11 b , f11.kp, b11, g11⟩
    have c_tg : CalF l.prog w K mg base 3 "through" _ _ ["p", "pairs"] (spW2 K [((He.cT K ("round_bits", none)).2, lamNm)] tgW) := ⟨ok_tg f12 b c_inv c_val c_wr, f12.kp, b12, g12⟩
    have c_rt : CalF l.prog w K mg base 4 "row_through" _ _ ["p", "k", "pairs"] (spW3 K [((He.cT K ("round_bits", none)).2, lamNm)] rtW) := ⟨ok_rt f13 b c_tg c_val, f13.kp, b13, g13⟩
    have c_let : CalF l.prog w K mg base 3 "letters" _ _ ["p", "q", "rows"] (spW3 K [((He.cT K ("round_bits", none)).2, lamNm)] letW) := ⟨ok_let f14 b c_vas, f14.kp, b14, g14⟩
    have c_cam : CalS l.prog w K mg base 5 "came" _ _ ["q", "hand", "lot", "source"] (spW4 K [((He.cT K ("round_bits", none)).2, lamNm)] camW) := ⟨ok_cam f15 b c_spl q_spl_3_0123, f15.kp, g15⟩
    have q_cam_3_0123 := kbN (n := 3) (m := 1) (π := [0, 1, 2, 3]) (ps := ["q", "hand", "lot", "source"]) (ks := ["source"]) f15 (by decide) rfl fun _ _ _ _ _ _ us ws h1 h2 => match us, ws, h1, h2 with | [_, _, _], [_], _, _ => rfl
    have c_tlb : CalF l.prog w K mg base 1 "tellable" _ _ ["q", "f"] (spW2 K [((He.cT K ("round_bits", none)).2, lamNm)] tlbW) := ⟨ok_tlb f16 b , f16.kp, b16, g16⟩
    have c_hab : CalF l.prog w K mg base 1 "has_bit" _ _ ["hand", "k"] (spW2 K [((He.cT K ("round_bits", none)).2, lamNm)] habW) := ⟨ok_hab f18 b , f18.kp, b18, g18⟩
    have GH : FnOk l.prog w K mg base CX0 1 _ _ _ spHas := ok_has f18
    have GB : FnOk l.prog w K mg base CX0 2 _ _ _ (spBits K) := ok_bits f17 GH f18.kp b18 g18 m1 m3
    have c_arq : CalF l.prog w K mg base 1 "arc" _ _ ["q", "j", "k"] (spW3 K [((He.cT K ("round_bits", none)).2, lamNm)] arqW) := ⟨ok_arq f19 b , f19.kp, b19, g19⟩
    have GA : FnOk l.prog w K mg base CX0 1 _ _ _ spArc := ok_arc f19
    have GR := ok_round FT TB0 GA f19.kp b19 g19 GB f17.kp b17 g17 m1 m14
    have c_rbd : CalF l.prog w K mg base 5 "round_bits" _ _ ["q", "hand", "j"] (spW3 K [((He.cT K ("round_bits", none)).2, lamNm)] rbdW) := ⟨ad_round GR, f20.kp, b20, g20⟩
    have c_acr : CalF l.prog w K mg base 1 "across" _ _ ["hand", "k"] (spW2 K [((He.cT K ("round_bits", none)).2, lamNm)] acrW) := ⟨ok_acr f21 b , f21.kp, b21, g21⟩
    have c_crs : CalS l.prog w K mg base 6 "crossed" _ _ ["q", "hand", "j", "source"] (spW4 K [((He.cT K ("round_bits", none)).2, lamNm)] crsW) := ⟨ok_crs f22 b c_hab c_rbd, f22.kp, g22⟩
    have q_crs_3_0123 := kbN (n := 3) (m := 1) (π := [0, 1, 2, 3]) (ps := ["q", "hand", "j", "source"]) (ks := ["source"]) f22 (by decide) rfl fun _ _ _ _ _ _ us ws h1 h2 => match us, ws, h1, h2 with | [_, _, _], [_], _, _ => rfl
    have c_tel : CalS l.prog w K mg base 7 "teller" _ _ ["q", "hand", "j", "source"] (spW4 K [((He.cT K ("round_bits", none)).2, lamNm)] telW) := ⟨ok_tel f23 b c_acr c_crs q_crs_3_0123, f23.kp, g23⟩
    have q_tel_3_0123 := kbN (n := 3) (m := 1) (π := [0, 1, 2, 3]) (ps := ["q", "hand", "j", "source"]) (ks := ["source"]) f23 (by decide) rfl fun _ _ _ _ _ _ us ws h1 h2 => match us, ws, h1, h2 with | [_, _, _], [_], _, _ => rfl
    have c_urn : CalF l.prog w K mg base 1 "_law_urn" _ _ _ (spPot K) := ⟨ok_pot f24 m0 m6 m7, f24.kp, b24, g24⟩
    have GT0 : FnOk l.prog w K mg base CX0 1 _ _ _ spTake := ok_take f25
    have c_take : CalF l.prog w K mg base 1 "_law_take" _ _ _ (spP1 K [((He.cT K ("round_bits", none)).2, lamNm)] takeW) := ⟨ad_take GT0, f25.kp, b25, g25⟩
    have c_of : ∀ {α : Type} [Enc α] [Pu α], CalF l.prog w K mg base 2 "_law_of" _ _ _ (spP1 K [((He.cT K ("round_bits", none)).2, lamNm)] (ofW (α := α))) := fun {α} _ _ => ⟨ad_of (ok_of f26 GT0 f25.kp b25 g25 m0), f26.kp, b26, g26⟩
    have c_fi : CalF l.prog w K mg base 3 "_law_field" _ _ ["_law_pot", "_law_wide"] (spP1 K [((He.cT K ("round_bits", none)).2, lamNm)] fiW) := ⟨ok_fi f27 b c_of, f27.kp, b27, g27⟩
    have c_nu : CalF l.prog w K mg base 3 "_law_numbers" _ _ ["_law_pot", "_law_prime", "_law_size"] (spP2 K [((He.cT K ("round_bits", none)).2, lamNm)] nuW) := ⟨ok_nu f28 b c_of c_take, f28.kp, b28, g28⟩
    have c_ori : CalF l.prog w K mg base 3 "_law_origin" _ _ ["_law_pot", "_law_wide"] (spP1 K [((He.cT K ("round_bits", none)).2, lamNm)] oriW) := ⟨ok_ori f29 b c_of c_take, f29.kp, b29, g29⟩
    have c_lot : CalF l.prog w K mg base 1 "_law_lots" _ _ ["_law_some", "_law_size"] (spW2 K [((He.cT K ("round_bits", none)).2, lamNm)] lotW) := ⟨ok_lot f30 b , f30.kp, b30, g30⟩
    have c_lri : CalF l.prog w K mg base 6 "_law_lot_right" _ _ ["_law_prime", "_law_wide", "_law_shut", "_law_line", "_law_home"] (spW5 K [((He.cT K ("round_bits", none)).2, lamNm)] lriW) := ⟨ok_lri f31 b c_cam c_let c_rt q_cam_3_0123, f31.kp, b31, g31⟩
    have c_jri : CalF l.prog w K mg base 8 "_law_just_right" _ _ ["_law_wide", "_law_one", "_law_few", "_law_home"] (spW4 K [((He.cT K ("round_bits", none)).2, lamNm)] jriW) := ⟨ok_jri f32 b c_cam c_lot c_tel q_cam_3_0123 q_tel_3_0123, f32.kp, b32, g32⟩
    exact ok_law f33 b c_fi c_jri c_lot c_lri c_nu c_of c_ori c_tlb c_urn law_win
end Bf
open PySem PySem.W PySem.Calls PyProof.Rows
set_option maxHeartbeats 0 in
theorem PySem.Challenge.cw_beatferry_k85_whole_whoever_is_silent_holds : PySem.Challenge.rw_beatferry_k85_whole_whoever_is_silent.Holds := by
  w_on; o_law
  refine HandSHeadRun.head_any (r := OpenLaw.row PySem.Challenge.rw_beatferry_k85_whole_whoever_is_silent) (q := view (OpenLaw.row PySem.Challenge.rw_beatferry_k85_whole_whoever_is_silent).prog [44]) (H := Bf.hkL) (ob := Bf.obL) (M := 5000) (loose := (("NotSo" : Str) :: ("NoInverse" : Str) :: ("TooFew" : Str) :: ("spoilt" : Str) :: ("tree_through" : Str) :: ("only_tree" : Str) :: ("is_on_way" : Str) :: ("turned" : Str) :: ("first_place" : Str) :: ("last_place" : Str) :: ("raised" : Str) :: ("inverse" : Str) :: ("value" : Str) :: ("values" : Str) :: ("with_root" : Str) :: ("through" : Str) :: ("row_through" : Str) :: ("letters" : Str) :: ("came" : Str) :: ("tellable" : Str) :: ("bits" : Str) :: ("has_bit" : Str) :: ("arc" : Str) :: ("round_bits" : Str) :: ("across" : Str) :: ("crossed" : Str) :: ("teller" : Str) :: ("_law_urn" : Str) :: ("_law_take" : Str) :: ("_law_of" : Str) :: ("_law_field" : Str) :: ("_law_numbers" : Str) :: ("_law_origin" : Str) :: ("_law_lots" : Str) :: ("_law_lot_right" : Str) :: ("_law_just_right" : Str) :: [])) (d := HandSHeadRun.topDef (OpenLaw.row PySem.Challenge.rw_beatferry_k85_whole_whoever_is_silent).prog 44) (kwd := []) Bf.obL_eq
    (by kernel_rfl) (fun s => by kernel_rfl) Bf.runL (by kernel_rfl) (by kernel_rfl) (by kernel_rfl) (by rfl) (by first | assumption | decide +kernel) (by decide +kernel) ⟨rfl, rfl, rfl, rfl, rfl, by decide +kernel⟩ ?hw ?hc
  case hw => w_witness2
  case hc =>
    refine Bf.walkTE (l := PySem.Challenge.rw_beatferry_k85_whole_whoever_is_silent) (n := 63) (k := 9) (x := "_law_script") rfl (by decide) (by kernel_rfl) ⟨rfl, by decide, by decide⟩ ?F
    intro w mg fa h Y G hmg0
    obtain ⟨K, KX, c⟩ := Y
    have hmg : mg ("law" : PySem.Str) = some (.ref fa) := by
      have e : (HandSHeadRun.topDef (OpenLaw.row PySem.Challenge.rw_beatferry_k85_whole_whoever_is_silent).prog 44).name = ("law" : PySem.Str) := by kernel_rfl
      rw [← e]
      exact hmg0
    exact ⟨K, KX, Bf.facts KX G hmg c⟩
