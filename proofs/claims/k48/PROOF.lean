import PyProof.Rows.All
import Wide.All
import OpenK.AllK
import Wide.FinOn
import HandS.ForMost
import HandS.More
import HandS.Wide
import HandS.WideBits
import HandS.TupAny
import HandS.TupMul
import HandS.Style
import HandS.RaiseMore
import KE.SortKeyHeap
import KE.KLam
import HandS.SortKw
import HandS.Lambda
import HandS.Nested
import HandS.EndTab
import HandS.Conv
import HandS.Defaults
import HandS.Zip
import HandS.Walk
import HandS.Comp
import HandS.Flow
import HandS.Dict
import KE.KDictCopyH
import HandS.Head0
import HandS.Head1
import HandS.Head2
import HandS.HeadEnd
import HandS.HeadHook1
import HandS.HeadHook2
import HandS.HeadHook4
import PySem.Challenge.RW_beatferry_k48_back_beat_by_beat
set_option Elab.async false
set_option linter.all false
set_option maxRecDepth 100000
set_option maxHeartbeats 4000000
namespace Bf
open PySem PySem.Spec PyProof.Rows L2

/-! ### defs whose calls stand under no repr -/
structure FnG (P : Program) (w : World) (K : PySem.W.Frag) (mg : Str → Option Value) (base : Heap) (k : Nat) (f : Addr) (fd : FuncData) (ps : List Str) (sp : Sp) : Prop where
  len : ∀ vs H Q E, sp vs H Q E → vs.length = ps.length
  go : ∀ (A : Around) (outer : List Env) (s : Shared) (H : Hp) (args : Args) (us : List Value) (vs : List V) (Q : VK) (E : XK), A.guards = some [] → Room k A →
    Env0 P w K mg base A outer s H → BindsTo s fd args (ps.zip us) → Vals vs us → sp vs H Q E → codeAny (model P w) A (.call (.ref f) args) (CR CX0 outer P w H s Q E) s

theorem fnG_of {P : Program} {w : World} {K : PySem.W.Frag} {mg : Str → Option Value} {base : Heap} {x qual : Str} {st : Stmt} {f : Addr} {fd : FuncData} {N ps : List Str} {k : Nat} {sp : Sp}
    (F : Fun K x qual st f fd) (S : FnScope N ps (defScope st)) (len : ∀ vs H Q E, sp vs H Q E → vs.length = ps.length)
    (body : ∀ (cdv : Value) (A : Around) (outer : List Env) (s : Shared) (H : Hp) (vs : List V) (Q : VK) (E : XK), (A.deeper (envOfC qual (defScope st) s.heap.objs.size f cdv)).guards = some [] →
      Room k (A.deeper (envOfC qual (defScope st) s.heap.objs.size f cdv)) → sp vs H Q E →
      ∃ t, PSs (cxOf CX0 P w K mg base N qual (defScope st) f cdv A outer s H E).nox (defBody st) t ∧ t { nx := fun _ H' => Q .non H', rt := Q } (start N vs) H) : FnG P w K mg base (k + 1) f fd ps sp := by
  obtain ⟨oc, od, kV, doc, pm, an, cdv, ct, osl, rfl, lk, hcd⟩ := F.ex
  refine ⟨len, fun B out s G args us vs Q E gd rm en hb rl hs => ?_⟩
  have ln := len _ _ _ _ hs
  have kx : K.In s.heap := en.mod.kin.keeps fun b o e => (en.bs b o e).1
  have nl : s.heap.NoLimit := en.mod.nolimit.keeps fun b o e => (en.bs b o e).1
  have kinds : ∀ y ∈ ps.zip us, (defScope st).names.lookup y.1 = some .local ∨
      ((defScope st).names.lookup y.1 = some .cell ∧ ((cellsFrom (s.heap.objs.size + 1) (defScope st).names []).lookup y.1).isSome = true) := fun ⟨n, v⟩ hy =>
    (S.par n (List.of_mem_zip hy).1).elim (fun q => .inl q) fun q => .inr ⟨q, PySem.W.cellsFrom_some _ _ _ (.inl q)⟩
  refine codeAny_call_function rm.depth (kx _ _ lk) rfl S.co S.gen rfl (PySem.W.codeRec_of kx hcd) (hb _ _ _ _ ?_)
  refine wpAny_newFunctionEnv_cells S.kind kinds fun env he s1 x1 => ?_
  subst he
  refine ⟨nl.keeps x1.toInCall.keep, codeAny_func ?_⟩
  obtain ⟨t, ht, hq⟩ := body cdv B out s G vs Q E gd (rm.deeper _) hs
  have J0 : Inv (cxOf CX0 P w K mg base N qual (defScope st) f cdv B out s G E) [] (start N vs) G s1 := inv_start S rm.hd en ln rl x1
  refine wpAny_mono (ht.nox.run [] s1 (start N vs) G _ J0 hq) (fun fl s' hs' => ?_) fun e s' hs' => hs'
  cases fl with
  | ret u => exact let ⟨v, _, H', J, rv, q⟩ := hs'; ⟨v, H', J.os, J.bare, J.base, J.hok, rv, q⟩
  | next => exact let ⟨_, H', J, q⟩ := hs'; ⟨V.non, H', J.os, J.bare, J.base, J.hok, rfl, q⟩
  | brk => exact let ⟨_, _, _, q⟩ := hs'; False.elim q
  | cont => exact let ⟨_, _, _, q⟩ := hs'; False.elim q

section
variable {X : Cx} {x : Str} {p pos : Pos} {e : Expr} {es : List Expr} {t : TA} {k : Nat} {f : Addr} {fd : FuncData} {ps : List Str} {sp : Sp} {ds : List Value} {dvs : List V} {E : XK}
theorem runG {pins : List (Addr × Obj)} {σ : L2.St} {H : Hp} {s : Shared} {Q : VK} {us : List Value} {vs : List V} (F : FnG X.prog X.w X.K X.mg X.base k f fd ps sp) (gd : X.A.guards = some []) (hr : Room k X.A) (hb : Binds X.K fd ps ds) (hd : Vals dvs ds)
    (I : Inv X pins σ H s) (r : Vals vs us) (h : sp (vs ++ dvs) H Q E) : wpAny (model X.prog X.w) X.A (call (.ref f) us) (EP X pins σ Q) X.xe s := by
  have rr : Vals (vs ++ dvs) (us ++ ds) := r.append hd
  have ll : (us ++ ds).length = ps.length := rr.length.symm.trans (F.len _ _ _ _ h)
  refine wpAny_call (codeAny_mono (F.go X.A X.stack s H ⟨us, []⟩ (us ++ ds) (vs ++ dvs) Q E gd hr I.env0 (hb s us I.kIn ll) rr h) fun z s' hq => ?_)
  match z, hq with
  | .error _, hq => exact hq.elim
  | .ok (.ret _), hq => exact I.after hq
  | .ok .next, hq => exact False.elim hq
  | .ok .brk, hq => exact False.elim hq
  | .ok .cont, hq => exact False.elim hq
theorem pe_callG (F : FnG X.prog X.w X.K X.mg X.base k f fd ps sp) (gd : X.A.guards = some []) (hr : Room k X.A) (hg : Gl X x) (hm : X.mg x = some (.ref f)) (hk : PySem.W.keepIn X.K (.ref f) = true) (hb : Binds X.K fd ps ds) (hd : Vals dvs ds)
    (ha : PA X (e :: es) t) (hdb : (x == ("__debug__" : Str)) = false := by decide) (he : starEach (e :: es) X.env = (false, eval e X.env) :: starEach es X.env := by rfl) (hpl : (backTo pos (starEach es X.env)).any (·.1) = false := by rfl) :
    PE X (.Call (.Name x p) (e :: es) [] pos) (tCall sp dvs E t) :=
  ⟨fun pins s σ H Q I h => wpAny_Call_Name_kw (ld_glob I hg hm (PySem.W.callWith_K (h₀ := X.base) I.ok.mod.kin hk
    (thn (ha.run pos pins s σ H _ I h) fun us s1 ⟨vs, H1, I1, r, q⟩ => ⟨I1.kIn, runG F gd hr hb hd I1 r q⟩) he hpl) hdb)⟩

/-! ### repr of data -/
theorem call_reprD (gd : X.A.guards = some []) (hu : X.A.units + 64 < cLine) : CallR X (.builtin "repr") (fun xs H Q => ∃ a d, xs = [.ref a] ∧ Dp X.K H (.ref a) d ∧ d.showable = true ∧ d.hasDict = false ∧ d.depth < 60 ∧ d.shown.length ≤ sizeLine ∧ Q (.str d.shown) H) := by
  intro pins s σ H xs us Q I r h
  obtain ⟨a, d, rfl, hd, h1, h2, h3, h4, q⟩ := h
  obtain ⟨u, rfl, ru⟩ := vals1 r
  obtain ⟨as, rd⟩ := Dp.reads I d _ u hd ru
  cases ru
  refine repr_of_reads' rd h1 (PyData.noDict_hsm h2) gd (by omega) (fun _ _ z => z) (fun h' u tk hk => ?_) h4
  exact ⟨.str d.shown, H, I.kept hk, ⟨u, rfl⟩, q⟩
theorem call_reprN : CallR X (.builtin "repr") (fun xs H Q => ∃ i, xs = [.int i] ∧ i.natAbs.log2 < 1920 ∧ Q (.str (toString i)) H) := by
  intro pins s σ H xs us Q I r h
  obtain ⟨i, rfl, hz, q⟩ := h
  obtain ⟨u, rfl, t, rfl⟩ := vals1 r
  exact PySem.P.repr_of_int hz ⟨.str (toString i), H, I.tok _, ⟨_, rfl⟩, q⟩

/-! ### calls by names alone -/
theorem pe_callK0 {CX : CXT} {kws : List Keyword} {tk : TA} {ks : List Str} {g : List Value → List Value → List Value} {gV : List V → List V → List V} (F : FnOk X.prog X.w X.K X.mg X.base CX k f fd ps sp) (hr : Room k X.A) (hg : Gl X x)
    (hm : X.mg x = some (.ref f)) (hk : PySem.W.keepIn X.K (.ref f) = true) (hb : KBinds X.K fd ps ks g gV) (hx : Passes CX X E) (hkw : PK X kws tk)
    (hall : (backToKw pos (keywordEach kws X.env)).all (·.1.isSome) = true := by rfl) (hks : (backToKw pos (keywordEach kws X.env)).filterMap (·.1) = ks := by rfl) (hdb : (x == ("__debug__" : Str)) = false := by decide)
    (hpl : ((backTo pos (starEach [] X.env)).any (·.1) || (backToKw pos (keywordEach kws X.env)).any (·.1.isNone)) = false := by rfl) : PE X (.Call (.Name x p) [] kws pos) (tCallK sp gV E tNil tk) := by
  refine ⟨fun pins s σ H Q I h => wpAny_Call_Name_kw (ld_glob I hg hm (PySem.W.callWith_KW0 (h₀ := X.base) I.ok.mod.kin hk hall ?_ hpl) hdb)⟩
  refine thn (hkw.run pos pins s σ H _ I h) fun ws s2 ⟨zs, H2, I2, rz, q2⟩ => ⟨I2.kIn, ?_⟩
  rw [hks]
  exact run_fnk F hr hb hx I2 .nil rz q2

/-! ### t[::-1], t a tuple -/
end
section
variable {prog : Program} {w : World} {A : Around} {E : Value → Shared → Prop} {s : Shared}
theorem back_adjust (n : Nat) : Builtin.Slice.sliceAdjust none none (-1) (n : Int) = ((n : Int) - 1, -1) := by
  unfold Builtin.Slice.sliceAdjust
  rfl
theorem back_places (n : Nat) : Builtin.Slice.slicePlaces ((n : Int) - 1) (-1) (-1) = n := by
  unfold Builtin.Slice.slicePlaces
  have h1 : ¬ ((-1 : Int) > 0) := by omega
  simp only [h1, if_false, Int.neg_neg, Int.ediv_one]
  split <;> omega
theorem back_pick (xs : Array Value) : ((List.range xs.size).filterMap fun (k : Nat) => xs[((xs.size : Int) - 1 + (k : Int) * (-1)).toNat]?).toArray = xs.toList.reverse.toArray := by
  have e : ((List.range xs.size).filterMap fun (k : Nat) => xs[((xs.size : Int) - 1 + (k : Int) * (-1)).toNat]?) = ((List.range xs.size).map fun k => xs.size - 1 - k).filterMap (xs[·]?) := by
    rw [List.filterMap_map]
    have h : ∀ l : List Nat, l.filterMap (fun (k : Nat) => xs[((xs.size : Int) - 1 + (k : Int) * (-1)).toNat]?) = l.filterMap ((fun x => xs[x]?) ∘ fun k => xs.size - 1 - k) := by
      intro l
      induction l with
      | nil => rfl
      | cons k l ih =>
        have ek : ((xs.size : Int) - 1 + (k : Int) * (-1)).toNat = xs.size - 1 - k := by omega
        simp only [List.filterMap_cons, ih, Function.comp, ek]
    exact h _
  rw [e, PySem.W.krv_range, List.filterMap_reverse, PySem.W.krv_all]
theorem back_applied {sl : Addr} {vl vu vs : Value} {n : Nat} {Q : Int × Int × Nat → Shared → Prop} (hs : s.heap.IsSliceOf sl vl vu vs) (pl : IsPart vl none) (pu : IsPart vu none) (pk : IsPart vs (some (-1)))
    (h : Q ((n : Int) - 1, -1, n) s) : wpAny (model prog w) A (Builtin.Slice.sliceApplied (.ref sl) (pure (n : Int))) Q E s := by
  obtain ⟨os, ho, _, hd⟩ := id hs
  unfold Builtin.Slice.sliceApplied Builtin.Slice.sliceFields
  refine wpAny_bind (wpAny_bind (wpAny_field ho hd (x := vl) rfl (wpAny_bind (wpAny_field ho hd (x := vu) rfl (wpAny_bind (wpAny_field ho hd (x := vs) rfl (wpAny_pure ?_)))))))
  refine wpAny_bind (HT.slicePart_ pk ?_)
  show wpAny _ _ (if ((-1 : Int) == 0) = true then _ else _) _ _ s
  rw [if_neg (by decide)]
  refine wpAny_bind (HT.slicePart_ pl (wpAny_bind (HT.slicePart_ pu (wpAny_bind (wpAny_pure ?_)))))
  show wpAny _ _ (match Builtin.Slice.sliceAdjust none none (-1) (n : Int) with | (lo, hi) => pure (lo, (-1 : Int), Builtin.Slice.slicePlaces lo hi (-1))) _ _ s
  rw [back_adjust n]
  show wpAny _ _ (pure ((n : Int) - 1, (-1 : Int), Builtin.Slice.slicePlaces ((n : Int) - 1) (-1) (-1))) _ _ s
  rw [back_places]
  exact wpAny_pure h
theorem getItem_tuple_back {t sl : Addr} {items : Array Value} {vl vu vs : Value} {Q : Value → Shared → Prop} (ht : IsTup s.heap t items) (hs : s.heap.IsSliceOf sl vl vu vs) (pl : IsPart vl none) (pu : IsPart vu none) (pk : IsPart vs (some (-1)))
    (h : Q (.ref s.heap.objs.size) { s with heap := s.heap.push { cls := .type "tuple", data := .seq items.toList.reverse.toArray } }) (hsz : items.size ≤ sizeLine) : wpAny (model prog w) A (getItem (.ref t) (.ref sl)) Q E s := by
  have hz : sizeOk (.seq items.toList.reverse.toArray) := by
    show items.toList.reverse.toArray.size ≤ sizeLine
    rw [List.size_toArray, List.length_reverse, Array.length_toList]
    exact hsz
  obtain ⟨os, ho, hcs, _⟩ := id hs
  have hT : s.TypeIs (.ref sl) "slice" := ⟨os, ho, hcs⟩
  unfold getItem
  try with_reducible refine wpAny_holding ?_
  first | refine wpAny_bind (wpAny_pure ?_) | skip
  refine wpAny_bind (wpAny_sequenceKey ht.typeIs (by decide) ?_)
  refine wpAny_bind (wpAny_callSpecial?_slot (name := Str.ofString "__getitem__") ht.typeIs PyProof.Rows.slot_tuple_getitem (wpAny_call_entry PyProof.Rows.slot_tuple_getitem ht.typeIs entry_tuple_getitem ?_ (args_tuple_getitem _ _)))
  show wpAny _ _ (Builtin.Tuple.tupleItemsOf (.ref t) >>= _) _ _ s
  refine wpAny_bind (tupleItemsOf_ ht ?_)
  refine wpAny_bind (wpAny_typeOf hT ?_)
  rw [if_pos (by decide)]
  refine wpAny_bind (back_applied hs pl pu pk ?_)
  have hno : ¬ ((((items.size : Int) - 1) == 0 && (-1 : Int) == 1 && items.size == items.size) = true) := by
    intro q
    rw [Bool.and_eq_true, Bool.and_eq_true] at q
    exact absurd (eq_of_beq q.1.2) (by decide)
  show wpAny _ _ (if (((items.size : Int) - 1) == 0 && (-1 : Int) == 1 && items.size == items.size) = true then _ else _) _ _ s
  rw [if_neg hno, back_pick]
  first
    | exact wpAny_bind (m := Builtin.Tuple.tupleExact _) (wpAny_newObj_type (wpAny_pure ⟨_, rfl, wpAny_pure h⟩) hz)
    | exact wpAny_bind (m := Builtin.Tuple.tupleExact _) (wpAny_newObj_type (wpAny_bind (wpAny_pure (wpAny_pure ⟨_, rfl, wpAny_pure h⟩))) hz)
    | exact wpAny_bind (wpAny_bind (m := Builtin.Tuple.tupleExact _) (wpAny_newObj_type (wpAny_pure (wpAny_pure ⟨_, rfl, wpAny_pure h⟩)) hz))
    | exact wpAny_bind (wpAny_bind (m := Builtin.Tuple.tupleExact _) (wpAny_newObj_type (wpAny_pure ⟨_, rfl, wpAny_pure h⟩) hz))
end
section
variable {X : Cx} {x : Str} {p pos : Pos} {e : Expr} {es : List Expr} {t : TA} {k : Nat} {f : Addr} {fd : FuncData} {ps : List Str} {sp : Sp} {ds : List Value} {dvs : List V} {E : XK}
def tRevT (K : PySem.W.Frag) (te : TE) : TE := fun σ H Q => te σ H fun x H1 => ∃ a xs, x = .ref a ∧ SqT K H1 a xs ∧ ∀ p, H1 p = none → Q (.ref p) (upd H1 p (.tup xs.reverse))
theorem pe_revT {te : TE} {k : Nat} {p1 p2 p3 : Pos} (he : PE X e te) : PE X (.Subscript e (.Slice none none (some (.UnaryOp .USub (.Constant (.int 1) k p1) p2)) p3) pos) (tRevT X.K te) := by
  refine ⟨fun pins s σ H Q I h => Subscript_ (thn (he.run pins s σ H _ I h) fun v s1 ⟨y, H1, I1, r1, a, xs, ey, hx, q⟩ => ?_)⟩
  subst ey
  cases r1
  have hst : PO X (some (.UnaryOp .USub (.Constant (.int 1) k p1) p2)) (tPart (tUn (rU fun i => .int (-i)) (tC (.int 1)))) := po_some (pe_un un_neg pe_int)
  refine wpAny_Slice (thn (po_none.run pins s1 σ H1 (fun o H2 => o = none ∧ H2 = H1) I1 ⟨rfl, rfl⟩) fun vl s2 ⟨l, H2, I2, pl, el, e2⟩ => ?_)
  subst el e2
  refine thn (po_none.run pins s2 σ H2 (fun o H3 => o = none ∧ H3 = H2) I2 ⟨rfl, rfl⟩) fun vu s3 ⟨u, H3, I3, pu, eu, e3⟩ => ?_
  subst eu e3
  refine thn (hst.run pins s3 σ H3 (fun o H4 => o = some (-1) ∧ H4 = H3) I3 ⟨1, rfl, -1, rfl, rfl, rfl⟩) fun vs s4 ⟨o, H4, I4, pk, eo, e4⟩ => ?_
  subst eo e4
  have J : Inv X pins σ H4 { s4 with heap := s4.heap.push { cls := .type "slice", data := .fields #[vl, vu, vs] } } := I4.kept (t' := s4.toks) fun b ob q => Heap.get?_push_of_some _ q
  obtain ⟨its, r, ht, hz⟩ := J.tuple hx
  show wpAny (model X.prog X.w) X.A (subscriptTail e (.Slice none none (some (.UnaryOp .USub (.Constant (.int 1) k p1) p2)) p3) (.ref a) (.ref s4.heap.objs.size)) (EP X pins σ Q) X.xe { s4 with heap := s4.heap.push { cls := .type "slice", data := .fields #[vl, vu, vs] } }
  refine tail_any (ops := [.ref a, .ref s4.heap.objs.size]) ht.typeIs (PyProof.Rows.slot_tuple_getitem.lookup) ?_ (by with_unfolding_all rfl)
  refine getItem_tuple_back ht (Heap.IsSliceOf.new _ vl vu vs) pl pu pk ?_ (by rw [List.size_toArray, ← r.length]; exact hz)
  refine ⟨.ref _, _, J.laid (t' := s4.toks) (o := .tup xs.reverse) (fun b ob q => Heap.get?_push_of_some _ q) (Nat.le_refl _) ?_, rfl, q _ (J.hok.fresh (Nat.le_refl _))⟩
  exact ⟨by rw [List.length_reverse]; exact hz, its.reverse, r.reverse, IsTup.new _ _⟩

/-! ### t * k, whatever t is -/
def rRepA (K : PySem.W.Frag) : R2 := fun x y H Q => ∃ l k xs, x = .ref l ∧ y = .int k ∧ SqT K H l xs ∧ 2 ≤ k ∧ k ≤ 1000 ∧ xs.length ≤ 1000 ∧
  (xs = [] → Q (.ref l) H) ∧ (xs ≠ [] → ∀ p, H p = none → Q (.ref p) (upd H p (.tup (List.replicate k.toNat xs).flatten)))
theorem tuple_mul0 (l : Addr) (items : Array Value) (n : Nat) (dd : Option Addr) (sl : Array (Option Value)) (x : Int) (u : Tok) (c0 : (decide (x < -(2 ^ 63)) || decide (x ≥ 2 ^ 63)) = false) (c1 : (items.isEmpty || x == 1) = true) :
    Meets (Builtin.«tuple.__mul__» ⟨[.ref l, .int x u], []⟩) (fun _ R s => s.heap.get? l = some { cls := .type "tuple", dict := dd, data := .seq items n, slots := sl } ∧ R (.ok (.ret (Value.ref l))) s) :=
  .of_wp fun prog w A R s h => by
    obtain ⟨hp, g, d, tk, os⟩ := s
    obtain ⟨hl, h⟩ := h
    have f1 := AutoSeq1.idx_int
    wp_walk using wpAny_loadPart' hl
    repeat (first
      | (refine wpAny_ite_false (decide_eq_false (by rw [c0]; exact Bool.false_ne_true)) ?_; wp_walk using wpAny_loadPart' hl)
      | (refine wpAny_ite_true (decide_eq_true c1) ?_; wp_walk using wpAny_loadPart' hl))
    exact ⟨_, rfl, h⟩
theorem op_repA : OpR X (binaryOp .Mult) (rRepA X.K) := by
  intro pins s σ H x y v u Q I rx ry h
  obtain ⟨l, k, xs, rfl, rfl, hT, h1, h2, hz, q0, q1⟩ := h
  by_cases hx : xs = []
  · subst hx
    cases rx
    obtain ⟨t, rfl⟩ := ry
    obtain ⟨its, r, ⟨⟨cls, dd, data, sl⟩, ho, hc, n, hd⟩, hs⟩ := I.tuple hT
    simp only at hc hd
    subst hc hd
    cases r
    have c0 : (decide (k < -(2 ^ 63)) || decide (k ≥ 2 ^ 63)) = false := by
      rw [decide_eq_false (by omega), decide_eq_false (by omega)] <;> rfl
    exact wpAny_binaryOp_repeat_ref (T := "tuple") (U := "int") (by decide) ⟨_, ho, rfl⟩ (fun s' => typeIs_int s' k t) noFill_tuple_mul F.fills_int_mul F.slot_int_rmul repeat_tuple F.slot_int_index.lookup
      (call_meets F.slot_int_rmul (typeIs_int s k t) F.entry_int_rmul (F.args_int_rmul_2 _ _) (int_rmul_tuple k t l ([] : List Value).toArray n dd sl)
        ⟨ho, rfl, ⟨_, ho, rfl⟩, call_meets F.slot_tuple_mul ⟨_, ho, rfl⟩ F.entry_tuple_mul (F.args_tuple_mul_2 _ _) (tuple_mul0 l ([] : List Value).toArray n dd sl k t c0 (by rfl)) ⟨ho, ⟨.ref l, H, I, rfl, q0 rfl⟩⟩⟩)
  · exact op_repT pins s σ H _ _ v u Q I rx ry ⟨l, k, xs, rfl, rfl, hT, hx, h1, h2, hz, q1 hx⟩
end
end Bf
namespace Bf
open PySem PySem.W PyProof.Rows
/-! ### sorted(t, key=f), f's calls keep all, the frames up to their slots -/
def KS (fs : List Addr) (h h' : Heap) : Prop := ∀ b o, h.get? b = some o → (b ∉ fs → h'.get? b = some o) ∧ ∃ sl, h'.get? b = some { o with slots := sl }
def SS (fs : List Addr) (s s' : Shared) : Prop := KS fs s.heap s'.heap ∧ s'.os = s.os ∧ AllBare s'.gens
theorem KS.trans {fs : List Addr} {h h' h'' : Heap} (x : KS fs h h') (y : KS fs h' h'') : KS fs h h'' := fun b o e => by
  obtain ⟨x1, sl, x2⟩ := x b o e
  refine ⟨fun n => (y b o (x1 n)).1 n, ?_⟩
  obtain ⟨_, sl2, y2⟩ := y b _ x2
  exact ⟨sl2, y2⟩
theorem KS.of {fs : List Addr} {h h' : Heap} (x : ∀ b o, h.get? b = some o → h'.get? b = some o) : KS fs h h' := fun b o e => ⟨fun _ => x b o e, o.slots, x b o e⟩
section
variable {prog : Program} {w : World} {A : Around} {E : Value → Shared → Prop} {s : Shared} {a kS : Addr} {b : Bool} {vs : List Value} {e e1 : Nat} {P : PySem.Fin → Shared → Prop} {kz : List Int} {fs : List Addr}
theorem ints_alike (kz : List Int) : AllAlike (kz.map PyData.int) := fun d hd d' hd' => by
  obtain ⟨i, _, rfl⟩ := List.mem_map.mp hd
  obtain ⟨j, _, rfl⟩ := List.mem_map.mp hd'
  rfl
theorem ints_sortable (kz : List Int) : Sortable (kz.map PyData.int) := .inr fun d hd => by
  obtain ⟨i, _, rfl⟩ := List.mem_map.mp hd
  exact ⟨(fun z => nomatch z), fun xs z => nomatch z⟩
theorem ints_each (g : Heap) {l : List Value} {ks : List Int} (hk : IntsAre l ks) : EachIs (fun v k => ∃ as, Reads g v k as) l (ks.map PyData.int) := by
  induction hk with
  | nil => exact .nil
  | cons n t _ ih => exact .cons ⟨_, Reads.int n t⟩ ih
theorem keyS_rest {f : Value} {s₀ : Shared} (k0 : SS fs s₀ s) (hkS : s₀.heap.get? kS = none) (ha0 : s₀.heap.get? a = none) (fk : kS ∉ fs) (fa : a ∉ fs) (nk : s.heap.get? kS = some (seqObj "list" #[] 0)) (na : s.heap.get? a = some (seqObj "list" #[] e1)) (hka : kS ≠ a)
    (hlen : kz.length = vs.length) (hZ : vs.length ≤ sizeLine) (hu : A.units + 1 < cLine)
    (turn : ∀ (i : Nat) (v : Value) (n : Int), vs[i]? = some v → kz[i]? = some n → ∀ s1 : Shared, SS fs s₀ s1 → wpAny (model prog w) A (call f [v]) (fun u s2 => (∃ t, u = .int n t) ∧ SS fs s1 s2) (fun _ _ => False) s1)
    (h : ∀ s2 out c, SS fs s₀ s2 → s2.heap.get? a = some (seqObj "list" (List.toArray out) c) → KeyedOut b (kz.map PyData.int) vs out → P (.done (.ret .none)) s2) :
    wpAny (model prog w) A (ksk_rest a f b vs.toArray e1 (.ref kS)) P E s := by
  unfold ksk_rest
  refine wpAny_bind (wpAny_rule ?_)
  first
    | rw [List.forIn_toArray]
    | (rw [← Array.forIn_toList]; simp only [List.toList_toArray])
    | rw [← Array.forIn_toList]
  refine wpAny_bind (ksk_fold (fun i z => ∃ kA c, SS fs s₀ z ∧ z.heap.get? kS = some (seqObj "list" kA c) ∧ z.heap.get? a = some (seqObj "list" #[] e1) ∧ IntsAre kA.toList (kz.take i)) vs 0 s ⟨#[], 0, k0, nk, na, by rw [List.take_zero]; exact .nil⟩ ?step ?done)
  case step =>
    rintro j x z hx ⟨kA, c, kp, nk', na', hk⟩
    simp only [Nat.zero_add] at hk ⊢
    have hj : j < vs.length := (List.getElem?_eq_some_iff.mp hx).1
    obtain ⟨n, hn⟩ : ∃ n, kz[j]? = some n := ⟨_, List.getElem?_eq_getElem (by omega)⟩
    have hz : kA.size ≤ vs.length := by
      have h1 := hk.length
      rw [Array.length_toList, List.length_take] at h1
      omega
    refine wpAny_bind (wpAny_attempt (wpAny_mono (turn j x n hx hn z kp) (fun v z2 he => ?_) fun _ _ hF => hF.elim))
    obtain ⟨⟨t, rfl⟩, g1, g2, g3⟩ := he
    try dsimp only
    have nk2 : z2.heap.get? kS = some (seqObj "list" kA c) := (g1 _ _ nk').1 fk
    have na2 : z2.heap.get? a = some (seqObj "list" #[] e1) := (g1 _ _ na').1 fa
    have s1 := Heap.SameBut.update z2.heap kS (Obj.mapSeq (·.push (.int n t)))
    obtain ⟨c2, hc2⟩ : ∃ c2, (z2.heap.update kS (Obj.mapSeq (·.push (.int n t)))).get? kS = some (seqObj "list" (kA.push (.int n t)) c2) := ⟨_, get?_update_seq nk2 (·.push (.int n t))⟩
    refine wpAny_bind (listUpdate_at nk2 rfl ?_ (Nat.le_trans hz hZ) (Nat.le_trans (Nat.le_of_eq (Array.size_push ..)) (Nat.succ_le_succ (Nat.le_trans hz hZ))))
    refine wpAny_pure ⟨rfl, kA.push (.int n t), c2, ⟨?_, g2.trans kp.2.1, g3⟩, hc2, (s1.2 a hka.symm).trans na2, ?_⟩
    · have q := kp.1.trans g1
      intro d o ed
      obtain ⟨q1, sl, q2⟩ := q d o ed
      have hd : d ≠ kS := fun z => by rw [z, hkS] at ed; cases ed
      exact ⟨fun m => (s1.2 d hd).trans (q1 m), sl, (s1.2 d hd).trans q2⟩
    · have ek : kz.take (j + 1) = kz.take j ++ [n] := by rw [List.take_add_one, hn]; simp
      have ea : (kA.push (Value.int n t)).toList = kA.toList ++ [Value.int n t] := by simp
      rw [ea, ek]
      exact ksk_snoc hk
  case done =>
    rintro z ⟨kA, c, kp, nk', na', hk⟩
    have e3 : kz.take (0 + vs.length) = kz := List.take_of_length_le (by omega)
    rw [e3] at hk
    have hk' : EachIs (fun v k => ∃ as, Reads z.heap v k as) kA.toList (kz.map PyData.int) := ints_each z.heap hk
    have hsz : kA.size = vs.length := by
      have h1 := hk.length
      rw [Array.length_toList] at h1
      omega
    try dsimp only
    refine wpAny_bind (listItems_at nk' rfl ?_)
    refine keyH_end (s := z) (κ := dataKind z.heap (kz.map PyData.int)) (h₁ := L2.hidT z.heap (fun d => if d = kS then some (.own 0) else none)) (fun d o hd ed => (L2.of_hidT ed).1) ?_ nk' na' hka
      (SortsAt.data (s := z) hk' (ints_alike kz) (ints_sortable kz) fun d hd => ?_) hsz hZ fun h3 tk3 c3 k3 n3 => h _ _ c3 ⟨?_, kp.2.1, kp.2.2⟩ n3 ⟨z.heap, kA.toList, ints_alike kz, rfl, hk'⟩
    · cases q : (L2.hidT z.heap (fun d => if d = kS then some (.own 0) else none)).get? kS with
      | none => rfl
      | some o =>
        have q2 := (L2.of_hidT q).2
        rw [if_pos rfl] at q2
        cases q2
    · obtain ⟨i, _, rfl⟩ := List.mem_map.mp hd
      show A.units + 0 < cLine
      omega
    · intro d o ed
      obtain ⟨q1, sl, q2⟩ := kp.1 d o ed
      have hd : d ≠ kS := fun z => by rw [z, hkS] at ed; cases ed
      have hda : d ≠ a := fun z => by rw [z, ha0] at ed; cases ed
      have up : ∀ o', z.heap.get? d = some o' → h3.get? d = some o' := fun o' e' => k3 d o' hda (L2.hidT_get e' (if_neg hd))
      exact ⟨fun m => up _ (q1 m), sl, up _ q2⟩
theorem keyS_tree {f : Value} {n : Nat} {s₀ : Shared} (k0 : SS fs s₀ s) (ha0 : s₀.heap.get? a = none) (hfs : ∀ d ∈ fs, d < s.heap.objs.size) (fa : a ∉ fs) (ho : s.heap.get? a = some (seqObj "list" vs.toArray n)) (hlen : kz.length = vs.length) (hZ : vs.length ≤ sizeLine) (hu : A.units + 1 < cLine)
    (turn : ∀ (i : Nat) (v : Value) (n : Int), vs[i]? = some v → kz[i]? = some n → ∀ s1 : Shared, SS fs s₀ s1 → wpAny (model prog w) A (call f [v]) (fun u s2 => (∃ t, u = .int n t) ∧ SS fs s1 s2) (fun _ _ => False) s1)
    (h : ∀ s2 out c, SS fs s₀ s2 → s2.heap.get? a = some (seqObj "list" (List.toArray out) c) → KeyedOut b (kz.map PyData.int) vs out → P (.done (.ret .none)) s2) : wpAny (model prog w) A (ksk_tree a f b) P E s := by
  have la : a < s.heap.objs.size := Heap.lt_size ho
  obtain ⟨e1, o1⟩ : ∃ e1, (s.heap.update a (Obj.mapSeq fun _ => (#[] : Array Value))).get? a = some (seqObj "list" #[] e1) := ⟨_, get?_update_seq ho fun _ => #[]⟩
  have zS : ((s.heap.update a (Obj.mapSeq fun _ => (#[] : Array Value))).push (seqObj "tuple" vs.toArray 0)).objs.size = s.heap.objs.size + 1 := by rw [size_push', Heap.size_update]
  have nS : s₀.heap.get? (s.heap.objs.size + 1) = none := by
    cases q : s₀.heap.get? (s.heap.objs.size + 1) with
    | none => rfl
    | some o =>
      obtain ⟨_, sl, q2⟩ := k0.1 _ _ q
      exact absurd (Heap.lt_size q2) (Nat.not_lt.mpr (Nat.le_succ _))
  unfold ksk_tree
  refine wpAny_bind (listItems_at ho rfl ?_)
  refine wpAny_bind (listUpdate_at ho rfl ?_ (by rw [List.size_toArray]; exact hZ) (Nat.zero_le _))
  refine wpAny_bind (seqEpoch_at o1 rfl ?_)
  refine wpAny_bind (wpAny_newTuple ?_ (by show vs.length ≤ _; exact hZ))
  refine wpAny_bind (wpAny_newList ?_ (Nat.zero_le _))
  refine wpAny_holding ?_
  refine keyS_rest (kz := kz) (fs := fs) (s₀ := s₀) (s := { s with heap := ((s.heap.update a (Obj.mapSeq fun _ => (#[] : Array Value))).push (seqObj "tuple" vs.toArray 0)).push (seqObj "list" #[] 0) })
    (kS := ((s.heap.update a (Obj.mapSeq fun _ => (#[] : Array Value))).push (seqObj "tuple" vs.toArray 0)).objs.size) ⟨?_, k0.2.1, k0.2.2⟩ (by rw [zS]; exact nS) ha0 (fun z => ?_) fa (Heap.get?_push_size _ rfl) (Heap.get?_push_of_some _ (Heap.get?_push_of_some _ o1))
    (by rw [zS]; exact Nat.ne_of_gt (Nat.lt_succ_of_lt la)) hlen hZ hu turn h
  · intro d o ed
    obtain ⟨q1, sl, q2⟩ := k0.1 d o ed
    have hd : d ≠ a := fun z => by rw [z, ha0] at ed; cases ed
    have up : ∀ o', s.heap.get? d = some o' → (((s.heap.update a (Obj.mapSeq fun _ => (#[] : Array Value))).push (seqObj "tuple" vs.toArray 0)).push (seqObj "list" #[] 0)).get? d = some o' := fun o' e' =>
      Heap.get?_push_of_some _ (Heap.get?_push_of_some _ ((Heap.get?_update_ne _ _ _ _ hd).trans e'))
    exact ⟨fun m => up _ (q1 m), sl, up _ q2⟩
  · have q := hfs _ z
    rw [zS] at q
    exact absurd q (Nat.not_lt.mpr (Nat.le_succ _))
theorem collect_tup {t : Addr} {Q : List Value → Shared → Prop} (ht : IsTup s.heap t vs.toArray) (h : Q vs { s with heap := (s.heap.push (seqObj "list" #[] 0)).update s.heap.objs.size (Obj.mapSeq (· ++ vs.toArray)) }) (hsz : vs.length ≤ sizeLine) :
    wpAny (model prog w) A (collect (.ref t)) Q E s := by
  obtain ⟨o, ho, hc, n, hd⟩ := id ht
  unfold collect
  refine wpAny_bind (wpAny_runValue (codeAny_builtin entry_proto_collect' ?_))
  show wpAny _ _ (do again (.builtin "list.__iadd__" ⟨[← newList [], .ref t], []⟩)) _ _ s
  refine wpAny_bind (wpAny_newList (wpAny_pure ⟨Code.quiet_builtin _ (by decide +kernel), codeAny_builtin entry_list_iadd' ?_⟩))
  show wpAny _ _ (Builtin.List.listExtendWith (.ref s.heap.objs.size) (.ref t) (.ref s.heap.objs.size)) _ _ { s with heap := s.heap.push (seqObj "list" #[] 0) }
  unfold Builtin.List.listExtendWith
  have o2 : (s.heap.push (seqObj "list" #[] 0)).get? t = some o := Heap.get?_push_of_some _ ho
  refine wpAny_bind (wpAny_typeOf (T := "tuple") ⟨o, o2, hc⟩ ?_)
  have hT : (Value.type "tuple" == Value.type "tuple") = true := by rfl
  rw [if_pos (by rw [hT]; simp)]
  refine wpAny_bind (listItems_at o2 hd ?_)
  refine wpAny_bind (listItems_at (xs := #[]) (n := 0) (Heap.get?_push_size _ rfl) rfl ?_)
  rw [if_neg (by simp)]
  refine wpAny_bind (listUpdate_at (xs := #[]) (n := 0) (Heap.get?_push_size _ rfl) rfl ?_ (Nat.zero_le _) (by show (#[] ++ vs.toArray).size ≤ sizeLine + 1; simp only [Array.size_append, List.size_toArray, List.length_nil]; omega))
  refine wpAny_pure ?_
  show wpAny (model prog w) A (do
      let x ← load s.heap.objs.size
      match x.data with
      | .seq xs _ => pure xs.toList
      | _ => unsupported "internal:collect") Q E { s with heap := (s.heap.push (seqObj "list" #[] 0)).update s.heap.objs.size (Obj.mapSeq (· ++ vs.toArray)) }
  refine wpAny_bind (wpAny_load (get?_update_seq (Heap.get?_push_size _ rfl) _) ?_)
  show wpAny _ _ (pure ((#[] : Array Value) ++ vs.toArray).toList) Q E _
  rw [show ((#[] : Array Value) ++ vs.toArray).toList = vs by simp]
  exact wpAny_pure h
theorem sortedT {t : Addr} {f : Value} {kw : List (Str × Value)} {Q : Value → Shared → Prop} (bare : AllBare s.gens) (hfs : ∀ d ∈ fs, d < s.heap.objs.size) (ht : IsTup s.heap t vs.toArray) (hlen : kz.length = vs.length) (hZ : vs.length ≤ sizeLine) (hu : A.units + 3 < cLine)
    (ha1 : argsOk "sorted" ⟨[.ref t], kw⟩) (ha2 : ∀ x, argsOk "list.sort" ⟨[.ref x], kw⟩) (hk : ∀ x, Builtin.«list.sort» ⟨[.ref x], kw⟩ = ksk_tree x f b)
    (turn : ∀ (i : Nat) (v : Value) (n : Int), vs[i]? = some v → kz[i]? = some n → ∀ s1 : Shared, SS fs s s1 → wpAny (model prog w) A.in1.in1 (call f [v]) (fun u s2 => (∃ t, u = .int n t) ∧ SS fs s1 s2) (fun _ _ => False) s1)
    (h : ∀ s2 out c, SS fs s s2 → s2.heap.get? (s.heap.objs.size + 1) = some (seqObj "list" (List.toArray out) c) → KeyedOut b (kz.map PyData.int) vs out → Q (.ref (s.heap.objs.size + 1)) s2) : wpAny (model prog w) A (call (.builtin "sorted") [.ref t] kw) Q E s := by
  refine call_function_entry_kw kind_sorted plain_sorted entry_sorted ha1 ?_
  unfold Builtin.«sorted»
  refine wpAny_bind (m := checkCount "sorted" 1 1 _) (wpAny_pure ?_)
  refine wpAny_bind (collect_tup ht ?_ hZ)
  refine wpAny_bind (wpAny_newList ?_ hZ)
  have z1 : ((s.heap.push (seqObj "list" #[] 0)).update s.heap.objs.size (Obj.mapSeq (· ++ vs.toArray))).objs.size = s.heap.objs.size + 1 := by rw [Heap.size_update, size_push']
  show wpAny _ _ _ _ _ { s with heap := copyHeap s.heap vs }
  rw [z1]
  refine wpAny_bind (wpAny_holding (wpAny_call_entry_kw slot_list_sort ⟨_, copyHeap_at s.heap vs, rfl⟩ entry_list_sort ?body (ha2 _)))
  case body =>
    show wpAny (model prog w) A.in1.in1 (Builtin.«list.sort» ⟨[.ref (s.heap.objs.size + 1)], kw⟩) _ _ _
    rw [hk]
    have fresh : s.heap.get? (s.heap.objs.size + 1) = none := Heap.get?_none_of_le (Nat.le_succ _)
    refine keyS_tree (kz := kz) (fs := fs) (s₀ := s) (s := { s with heap := copyHeap s.heap vs }) ⟨KS.of fun d o q => copyHeap_old q, rfl, bare⟩ fresh (fun d hd => ?_) (fun z => ?_) (copyHeap_at s.heap vs) hlen hZ (by show A.units + 1 + 1 + 1 < cLine; omega) turn fun s2 out c k3 n3 ko => ⟨_, rfl, ?_⟩
    · exact Nat.lt_trans (hfs d hd) (Nat.lt_trans (Nat.lt_succ_self _) (Heap.lt_size (copyHeap_at s.heap vs)))
    · exact absurd (hfs _ z) (Nat.not_lt.mpr (Nat.le_succ _))
    · exact wpAny_pure ⟨_, rfl, h s2 out c k3 n3 ko⟩
end
end Bf
namespace Bf
open PySem PySem.Spec PyProof.Rows L2 LamX NdefX
section
variable {X : Cx} {pins : List (Addr × Obj)} {σ : L2.St} {H : Hp} {s s1 : Shared}
/-- all is kept, the frames up to slots; a list is new at D, perhaps -/
theorem inv_SS {H' : Hp} (I : Inv X pins σ H s) (k : SS (frs X.stack) s s1) (h1 : ∀ b o, H b = some o → H' b = some o) (h2 : ∀ b, b < s.heap.objs.size → H b = none → H' b = none)
    (h3 : ∀ b o, H' b = some o → H b = some o ∨ ObjOk X.prog X.w H' s1.heap b o) : Inv X pins σ H' s1 := by
  obtain ⟨k1, k2, k3⟩ := k
  have un : Un (frs X.stack) [] H H' s.heap s1.heap := ⟨fun b o e n hb _ => (k1 b o e).1 hb, fun b o e n hb _ => (k1 b o e).2, fun b o e n _ => h2 b (Heap.lt_size e) n, fun b o e _ => let ⟨sl, q⟩ := (k1 b o e).2; ⟨_, q⟩, fun b _ e => h1 b _ e, fun b _ _ e => h1 b _ e, fun b ps e => ⟨#[], by rw [h1 b _ e]; simp⟩⟩
  have hok : HOk X.prog X.w H' s1.heap := fun a o e => by
    rcases h3 a o e with q | q
    · refine (I.hok a o q).stay (fun b u hb r => (k1 b u r).1 fun z => ?_) (fun b r => h1 b _ r) fun b xs r => h1 b _ r
      have n := I.stkFree b z
      rcases hb with hb | hb
      · rw [hb, q] at n; cases n
      · rw [hb] at n; cases n
    · exact q
  obtain ⟨hh, g, d, t, os'⟩ := s1
  obtain rfl : os' = s.os := k2
  exact I.call (h' := hh) (g' := g) (d' := d) (t' := t) (ch := []) un hok k3 (fun b z => absurd z (by simp))
theorem inv_SS0 (I : Inv X pins σ H s) (k : SS (frs X.stack) s s1) : Inv X pins σ H s1 := inv_SS I k (fun _ _ e => e) (fun _ _ n => n) fun _ _ e => .inl e
def Hn : Hp := fun _ => none
abbrev lamF (X : Cx) (params : Arguments) (scope : Scope) (c' : Addr) : NF := ⟨"<lambda>", X.env.qual ++ "<lambda>", params, [], scope, cloFrom X.env.cells scope.names [], c'⟩
theorem lam_call {params : Arguments} {body : Expr} {scope : Scope} {f c' : Addr} {pm ctv v : Value} {x : Str} {fr N : List Str} {js : List Nat} {k : Nat} {t : TE} {n m : Int} (I : Inv X pins σ H s)
    (hf : s.heap.get? f = some (PySem.W.kla_obj "<lambda>" (X.env.qual ++ "<lambda>") params body scope (cloFrom X.env.cells scope.names []) pm c' ctv)) (hfr : f ∉ frs X.stack) (hc : H c' = some (CodeO c' (X.env.qual ++ "<lambda>")))
    (S : NScope N [x] fr scope) (cp : X.Ok → Caps X (cloFrom X.env.cells scope.names []) fr js)
    (hbind : ∀ (q : Str) (cl : List (Str × Addr)) (pm cv ctv u : Value), bindArgs (PySem.W.kla_fn "<lambda>" q params body scope cl pm cv ctv) ⟨[u], []⟩ = pure [(x, u)]) (hr : Room (k + 3) X.A) (ks : SS (frs X.stack) s s1)
    (hbody : ∀ (A : Around) (outer : List Env) (z : Shared) (G : Hp), Room k (A.deeper (envF (lamF X params scope c') f z.heap.objs.size)) → PE (ncx CX0 X.prog X.w X.K X.mg X.base N (lamF X params scope c') f A outer z G E0) body t)
    (ht : ∀ Q : VK, Q (.int m) Hn → t (startF N [.int n] (js.map (slotAt σ))) Hn Q) (hv : ∃ t, v = .int n t) :
    wpAny (model X.prog X.w) X.A.in1.in1 (call (.ref f) [v]) (fun u s2 => (∃ t, u = .int m t) ∧ SS (frs X.stack) s1 s2) (fun _ _ => False) s1 := by
  have I1 := inv_SS0 I ks
  have of1 := (ks.1 f _ hf).1 hfr
  have en := I1.env0
  have e0 : Env0 X.prog X.w X.K X.mg X.base X.A.in1.in1 X.stack s1 Hn := ⟨en.frames, en.mod, fun b o q => ⟨(en.bs b o q).1, rfl⟩, en.bsz, en.funs, fun _ _ => rfl, (fun a o z => nomatch z), en.bare⟩
  have C0 := cells_of I1 (cp I1.ok)
  have C : CellsAt (cloFrom X.env.cells scope.names []) fr (js.map (slotAt σ)) s1.heap Hn := ⟨C0.len, fun y c e => ⟨rfl, (C0.all y c e).2⟩, C0.inj, C0.has⟩
  obtain ⟨⟨oc, vs, tt, hoc, hdc, hvc⟩, _, _⟩ := I1.hok c' _ hc
  have hr1 : Room (k + 1) X.A.in1.in1 := hr.in1.in1
  have rc : codeAny (model X.prog X.w) X.A.in1.in1 (.call (.ref f) ⟨[v], []⟩) (CR CX0 X.stack X.prog X.w Hn s1 (fun u _ => u = .int m) E0) s1 := by
    refine PySem.W.kla_callFunE hr1.depth of1 rfl S.co S.gen rfl ⟨c', oc, vs, tt, rfl, hoc, hdc, hvc⟩ ?_
    rw [hbind]
    refine wpAny_pure (wpAny_newFunctionEnv S.nocell (fun y hy => ?_) (fun h₁ hns hsb => ⟨I1.nolimit.fresh _ hsb, ?_⟩) S.kind)
    · have e : y = (x, v) := by simpa using hy
      rw [e]
      exact S.par x (by simp)
    · show codeAny _ _ (.expr body (envF (lamF X params scope c') f s1.heap.objs.size)) _ _
      have kp : ∀ b o, s1.heap.get? b = some o → h₁.get? b = some o := fun b o e => hsb.extBut b o (Nat.ne_of_lt (Heap.lt_size e)) (Heap.get?_push_of_some _ e)
      have J : Inv (ncx CX0 X.prog X.w X.K X.mg X.base N (lamF X params scope c') f X.A.in1.in1 X.stack s1 Hn E0) [] (startF N [.int n] (js.map (slotAt σ))) Hn { s1 with heap := h₁, toks := s1.toks + ([(x, v)] : List (Str × Value)).length } :=
        inv_startN (ps := [x]) (us := [v]) S hr1.hd e0 rfl (.cons hv .nil) C hns kp
      refine PySem.W.kla_codeExpr (wpAny_mono ((hbody _ _ s1 Hn (hr1.deeper _)).run [] _ _ Hn (fun u _ => u = .int m) J (ht (fun u _ => u = .int m) rfl)) (fun u z hq => ?_) fun e z hq => hq)
      obtain ⟨w', H', J', rv, q⟩ := hq
      exact ⟨w', H', J'.os, J'.bare, J'.base, J'.hok, rv, q⟩
  refine wpAny_call (codeAny_mono rc fun r z hq => ?_)
  match r, hq with
  | .error _, hq => exact hq.elim
  | .ok .next, hq => exact False.elim hq
  | .ok .brk, hq => exact False.elim hq
  | .ok .cont, hq => exact False.elim hq
  | .ok (.ret u), hq =>
    obtain ⟨u', H', e1, e2, un, _, rv, q⟩ := hq
    obtain rfl : u' = .int m := q
    exact ⟨rv, fun b o e => ⟨fun hb => un.keep b o e rfl hb (by simp), un.any e rfl (by simp)⟩, e1, e2⟩
/-! ### sorted(e, key=lambda x: ..) -/
def tSortLam (T : List (Addr × Str)) (K : PySem.W.Frag) (t : TE) (N : List Str) (js : List Nat) (te : TE) : TE := fun σ H Q => te σ H fun v H1 => ∃ (a : Addr) (ns : List Int) (g : Int → Int), [v] = [V.ref a] ∧ SqT K H1 a (ns.map V.int) ∧ Tabs T H1 ∧
  (∀ n ∈ ns, ∀ Q' : VK, Q' (.int (g n)) Hn → t (startF N [.int n] (js.map (slotAt σ))) Hn Q') ∧
  ∀ (H2 : Hp) (p : Addr) (ns' : List Int), ExtN H1 H2 → Tabs T H2 → H2 p = none → ns'.Perm ns → ns'.Pairwise (fun i j => g i ≤ g j) → Q (.ref p) (upd H2 p (.lst (ns'.map V.int)))
theorem ext_tup {K : PySem.W.Frag} {H1 H2 : Hp} {a : Addr} {xs : List V} (e : ExtN H1 H2) (h : SqT K H1 a xs) : SqT K H2 a xs := by
  rcases h with (h | ⟨o, h⟩) | h
  · exact .inl (.inl (e _ _ h (fun ps z => nomatch z)))
  · exact .inl (.inr ⟨o, e _ _ h (fun ps z => nomatch z)⟩)
  · exact .inr h
theorem each_ints : ∀ {us : List Value} {ns : List Int}, IntsAre us ns → PySem.W.EachIs (fun (v : Value) (n : Int) => ∃ t, v = .int n t) us ns
  | _, _, .nil => .nil
  | _, _, .cons n t r => .cons ⟨t, rfl⟩ (each_ints r)
theorem ints_eachV : ∀ {us : List Value} {ns : List Int}, PySem.W.EachIs (fun (v : Value) (n : Int) => ∃ t, v = .int n t) us ns → Vals (ns.map V.int) us
  | _, _, .nil => .nil
  | _, _, .cons r q => .cons r (ints_eachV q)
theorem int_le (g : Int → Int) : PySem.W.dataLe false (fun n => PyData.int (g n)) = fun i j => decide (g i ≤ g j) := by
  funext i j
  show (!PySem.W.dataLt (.int (g j)) (.int (g i))) = decide (g i ≤ g j)
  rw [PySem.W.dataLt_int]
  by_cases h : g i ≤ g j
  · rw [decide_eq_true h, decide_eq_false (by omega)]; rfl
  · rw [decide_eq_false h, decide_eq_true (by omega)]; rfl
theorem pe_sortLam {T : List (Addr × Str)} {c P : Addr} {e : Expr} {te t : TE} {params : Arguments} {body : Expr} {scope : Scope} {x : Str} {fr N : List Str} {js : List Nat} {k : Nat} {p pos lpos kpos : Pos} (ha : PA X [e] (tCons te tNil)) (hg : Gl X "sorted") (hm : X.mg "sorted" = none)
    (TB : TabB X.base X.mg c P) (hcode : X.env.code = .ref c) (hmT : (P, X.env.qual ++ "<lambda>") ∈ T) (hu : ∀ p ∈ T, p.1 = P → p.2 = X.env.qual ++ "<lambda>") (hdef : defaultsOf params X.env = ([], []))
    (S : NScope N [x] fr scope) (hfree : ∀ y ∈ scope.names, y.2 = .free → X.env.scope.names.lookup y.1 = some .cell ∨ X.env.scope.names.lookup y.1 = some .free) (cp : X.Ok → Caps X (cloFrom X.env.cells scope.names []) fr js)
    (hbind : ∀ (q : Str) (cl : List (Str × Addr)) (pm cv ctv u : Value), bindArgs (PySem.W.kla_fn "<lambda>" q params body scope cl pm cv ctv) ⟨[u], []⟩ = pure [(x, u)]) (hr : Room (k + 3) X.A)
    (hbody : ∀ (f c' : Addr) (A : Around) (outer : List Env) (z : Shared) (G : Hp), Room k (A.deeper (envF (lamF X params scope c') f z.heap.objs.size)) → PE (ncx CX0 X.prog X.w X.K X.mg X.base N (lamF X params scope c') f A outer z G E0) body t)
    (na : backTo pos (starEach [e] X.env) = (false, eval e X.env) :: backTo pos (starEach [] X.env) := by rfl) (hpl : (backTo pos (starEach [e] X.env)).any (·.1) = false := by rfl) :
    PE X (.Call (.Name "sorted" p) [e] [⟨some "key", .Lambda params body scope lpos, kpos⟩] pos) (tSortLam T X.K t N js te) := by
  refine ⟨fun pins s σ H Q I h => ?_⟩
  refine wpAny_Call_Name_kw (ld_blt I hg hm (show bootBuiltins "sorted" = some (.builtin "sorted") by decide +kernel) ?_ (by decide) (by decide))
  refine PyProof.Rows.callWith_kw (thn (ha.run pos pins s σ H (fun vs H1 => ∃ (a : Addr) (ns : List Int) (g : Int → Int), vs = [V.ref a] ∧ SqT X.K H1 a (ns.map V.int) ∧ Tabs T H1 ∧ (∀ n ∈ ns, ∀ Q' : VK, Q' (.int (g n)) Hn → t (startF N [.int n] (js.map (slotAt σ))) Hn Q') ∧
      ∀ (H2 : Hp) (p : Addr) (ns' : List Int), ExtN H1 H2 → Tabs T H2 → H2 p = none → ns'.Perm ns → ns'.Pairwise (fun i j => g i ≤ g j) → Q (.ref p) (upd H2 p (.lst (ns'.map V.int)))) I h) fun us s1 ⟨vs, H1, I1, r1, q1⟩ => ?_) na hpl (by rfl) (by rfl)
  obtain ⟨a, ns, g, ev, hT, tb, hk, q⟩ : ∃ (a : Addr) (ns : List Int) (g : Int → Int), vs = [.ref a] ∧ SqT X.K H1 a (ns.map V.int) ∧ Tabs T H1 ∧ (∀ n ∈ ns, ∀ Q' : VK, Q' (.int (g n)) Hn → t (startF N [.int n] (js.map (slotAt σ))) Hn Q') ∧
      ∀ (H2 : Hp) (p : Addr) (ns' : List Int), ExtN H1 H2 → Tabs T H2 → H2 p = none → ns'.Perm ns → ns'.Pairwise (fun i j => g i ≤ g j) → Q (.ref p) (upd H2 p (.lst (ns'.map V.int))) := q1
  subst ev
  rw [Vals.ref1 r1]
  show wpAny _ _ (evalAll ((do let v ← eval (.Lambda params body scope lpos) X.env; standAt pos; pure v) :: [])) _ _ s1
  refine wpAny_evalAll_cons (wpAny_bind (lam_make2 I1 TB hcode hmT hu tb hdef (fun y hy e => (hfree y hy e).elim (fun z => I1.ok.has _ (.inl z)) fun z => I1.ok.has _ (.inr z)) fun f c' pm ctv H2 s2 I2 eN T2 hf hfn hfr hco => wpAny_bind (wpAny_standAt (wpAny_pure (wpAny_evalAll_nil ?_)))))
  obtain ⟨its, rv, ht, hz⟩ := I2.tuple (ext_tup eN hT)
  have hI : IntsAre its ns := intsAre_of rv
  have hl : ns.length = its.length := by
    have := rv.length
    rw [List.length_map] at this
    exact this
  have hu0 := hr.un
  refine sortedT (fs := frs X.stack) (kz := ns.map g) (vs := its) (b := false) I2.bare (fun d hd => ?_) ht (by rw [List.length_map]; exact hl) (by rw [← rv.length]; exact hz) (by omega) (ksk_s1 _ _) (fun _ => ksk_l1 _ _) (fun y => ksk_t1 f y) (fun i v n hv hn s3 hs3 => ?_) (fun s3 out cc k3 n3 ko => ?_)
  · obtain ⟨_, o, ho, _⟩ := I2.stack.mem hd
    exact Heap.lt_size ho
  · rw [List.getElem?_map] at hn
    cases e : ns[i]? with
    | none => rw [e] at hn; cases hn
    | some m =>
      rw [e] at hn
      obtain rfl : g m = n := Option.some.inj hn
      have hvi : ∃ t, v = .int m t := by
        obtain ⟨u, hu1, hu2⟩ := Vals.get rv (show (ns.map V.int)[i]? = some (.int m) by rw [List.getElem?_map, e]; rfl)
        rw [hv] at hu1
        cases hu1
        exact hu2
      exact lam_call I2 hf hfr hco S cp hbind hr hs3 (fun A outer z G hrr => hbody f c' A outer z G hrr) (hk m (List.mem_of_getElem? e)) hvi
  · rw [List.map_map] at ko
    have eo := PySem.W.keyedOut_each (fun n => PyData.int (g n)) ko (each_ints hI)
    rw [int_le] at eo
    have vo := ints_eachV eo
    have nD : H2 (s2.heap.objs.size + 1) = none := I2.hok.fresh (Nat.le_succ _)
    have I3 : Inv X pins σ (upd H2 (s2.heap.objs.size + 1) (.lst ((ns.mergeSort fun i j => decide (g i ≤ g j)).map V.int))) s3 := by
      refine inv_SS I2 k3 (fun b o e => by rw [upd_ne (ne_of_none e nD)]; exact e) (fun b hb n => ?_) (fun b o e => ?_)
      · rw [upd_ne (Nat.ne_of_lt (Nat.lt_succ_of_lt hb))]
        exact n
      · by_cases eb : b = s2.heap.objs.size + 1
        · subst eb
          rw [upd_same] at e
          cases e
          refine .inr ⟨?_, out, cc, vo, n3⟩
          rw [List.length_map, (List.mergeSort_perm ns _).length_eq, hl, ← rv.length]
          exact hz
        · rw [upd_ne eb] at e
          exact .inl e
    refine ⟨.ref (s2.heap.objs.size + 1), _, I3, rfl, q H2 _ _ eN T2 nD (List.mergeSort_perm ns _) ?_⟩
    have := List.pairwise_mergeSort (le := fun i j => decide (g i ≤ g j)) (fun i j l h1 h2 => decide_eq_true (Int.le_trans (of_decide_eq_true h1) (of_decide_eq_true h2))) (fun i j => by
      rcases Int.le_total (g i) (g j) with h | h
      · simp [h]
      · simp [h]) ns
    exact this.imp fun h => of_decide_eq_true h
end
end Bf
namespace Bf
open PySem PySem.Spec PyProof.Rows L2
/-! ### bits of a number -/
def bl (n h : Nat) : List Nat := (List.range n).filter (fun k => h.testBit k)
theorem bl_succ (n h : Nat) : bl (n + 1) h = bl n h ++ (if h.testBit n = true then [n] else []) := by
  unfold bl
  rw [List.range_succ, List.filter_append]
  cases e : h.testBit n <;> simp [e]
theorem bl_ext {n h : Nat} (hh : h < 2 ^ n) : ∀ d, bl (n + d) h = bl n h
  | 0 => rfl
  | d + 1 => by
    have e : h.testBit (n + d) = false := Nat.testBit_lt_two_pow (Nat.lt_of_lt_of_le hh (Nat.pow_le_pow_right (by decide) (Nat.le_add_right n d)))
    rw [← Nat.add_assoc, bl_succ, bl_ext hh d, e]
    simp
theorem bl_eq {n m h : Nat} (hn : h < 2 ^ n) (hm : h < 2 ^ m) : bl n h = bl m h := by
  rcases Nat.le_total n m with l | l
  · obtain ⟨d, rfl⟩ := Nat.exists_eq_add_of_le l
    exact (bl_ext hn d).symm
  · obtain ⟨d, rfl⟩ := Nat.exists_eq_add_of_le l
    exact bl_ext hm d
theorem bl_len (n h : Nat) : (bl n h).length ≤ n := by
  have := List.length_filter_le (fun k => h.testBit k) (List.range n)
  rw [List.length_range] at this
  exact this
theorem bl_mem {n h i : Nat} (hn : h < 2 ^ n) : i ∈ bl n h ↔ h.testBit i = true := by
  unfold bl
  rw [List.mem_filter, List.mem_range]
  constructor
  · exact fun z => z.2
  · intro z
    refine ⟨Nat.lt_of_not_le fun l => ?_, z⟩
    rw [Nat.testBit_lt_two_pow (Nat.lt_of_lt_of_le hn (Nat.pow_le_pow_right (by decide) l))] at z
    cases z
theorem bl_lt {n h i : Nat} (hi : i ∈ bl n h) : i < n := List.mem_range.mp (List.mem_filter.mp hi).1
def fb (ks : List Nat) : Nat := ks.foldl (fun h k => h ||| 2 ^ k) 0
theorem fold_bit (i : Nat) : ∀ (ks : List Nat) (h : Nat), (ks.foldl (fun h k => h ||| 2 ^ k) h).testBit i = (h.testBit i || decide (i ∈ ks))
  | [], h => by simp
  | k :: ks, h => by
    rw [List.foldl_cons, fold_bit i ks, Nat.testBit_or, Nat.testBit_two_pow, Bool.or_assoc]
    congr 1
    by_cases e : i = k
    · subst e; simp
    · have e2 : ¬ k = i := fun z => e z.symm
      simp [e, e2]
theorem fb_eq {ks : List Nat} {h : Nat} (hm : ∀ i, i ∈ ks ↔ h.testBit i = true) : fb ks = h := by
  refine Nat.eq_of_testBit_eq fun i => ?_
  unfold fb
  rw [fold_bit, Nat.zero_testBit, Bool.false_or]
  cases e : h.testBit i with
  | true => exact decide_eq_true ((hm i).mpr e)
  | false => exact decide_eq_false fun z => by rw [(hm i).mp z] at e; cases e
theorem fb_take {ks : List Nat} {i k : Nat} (h : ks[i]? = some k) : fb (ks.take (i + 1)) = fb (ks.take i) ||| 2 ^ k := by
  unfold fb
  rw [List.take_add_one, h]
  simp [List.foldl_append]
theorem fb_lt {ks : List Nat} {n : Nat} (hk : ∀ k ∈ ks, k < n) : fb ks < 2 ^ n := by
  refine Nat.lt_pow_two_of_testBit _ fun i hi => ?_
  unfold fb
  rw [fold_bit, Nat.zero_testBit, Bool.false_or]
  exact decide_eq_false fun z => by have := hk i z; omega
theorem intBits_nat {h : Nat} : h < 2 ^ (Builtin.Int.intBits (h : Int)) := by
  unfold Builtin.Int.intBits
  by_cases e : h = 0
  · subst e
    decide
  · rw [if_neg (by simpa using e)]
    have := Nat.lt_log2_self (n := h)
    simpa using this
theorem intBits_le60 {h n : Nat} (hh : h < 2 ^ n) : Builtin.Int.intBits (h : Int) ≤ n := PyProof.Rows.intBits_le (by simpa using hh)
/-! ### numbers as data -/
def nv (ns : List Nat) : List V := ns.map fun (n : Nat) => V.int (n : Int)
def nd' (ns : List Nat) : List PyData := ns.map fun (n : Nat) => PyData.int (n : Int)
theorem nv_at {ns : List Nat} {i n : Nat} (h : ns[i]? = some n) : (nv ns)[i]? = some (.int (n : Int)) := by
  unfold nv
  rw [List.getElem?_map, h]
  rfl
theorem nv_len (ns : List Nat) : (nv ns).length = ns.length := List.length_map ..
theorem dp_nv {K : PySem.W.Frag} {H : Hp} : ∀ ns : List Nat, DpAll K H (nv ns) (nd' ns)
  | [] => .nil
  | n :: ns => .cons (.int _) (dp_nv ns)
theorem nd_show : ∀ ns : List Nat, (∀ n ∈ ns, n < 2 ^ 61) → PyData.showableAll (nd' ns) = true
  | [], _ => rfl
  | n :: ns, h => by
    have h1 : n < 2 ^ 61 := h n List.mem_cons_self
    have e : n.log2 < 1920 := by
      by_cases z : n = 0
      · subst z; decide
      · exact Nat.lt_of_lt_of_le ((Nat.log2_lt z).mpr h1) (by decide)
    show (decide ((n : Int).natAbs.log2 < 1920) && PyData.showableAll (nd' ns)) = true
    rw [nd_show ns fun m hm => h m (List.mem_cons_of_mem _ hm), Bool.and_true]
    exact decide_eq_true (by simpa using e)
theorem nd_dict : ∀ ns : List Nat, PyData.hasDictAll (nd' ns) = false
  | [] => rfl
  | n :: ns => nd_dict ns
theorem nd_depth : ∀ ns : List Nat, PyData.depthAll (nd' ns) ≤ 1
  | [] => by simp [nd', PyData.depthAll]
  | n :: ns => by
    have := nd_depth ns
    show max _ (PyData.depthAll (nd' ns)) ≤ 1
    simp only [PyData.depth]
    omega
theorem nd_leaves : ∀ ns : List Nat, (∀ n ∈ ns, n < 2 ^ 61) → PyData.leavesShortAll 64 (nd' ns) = true
  | [], _ => rfl
  | n :: ns, h => by
    have h1 : n < 2 ^ 61 := h n List.mem_cons_self
    show (decide ((PyData.shown (.int (n : Int))).length ≤ 64) && PyData.leavesShortAll 64 (nd' ns)) = true
    rw [nd_leaves ns fun m hm => h m (List.mem_cons_of_mem _ hm), Bool.and_true]
    have h2 : (n : Int) < 10 ^ 19 := by omega
    exact decide_eq_true (Nat.le_trans (toString_length_le (v := (n : Int)) (by omega) (k := 19) (by decide) h2) (by decide))
theorem nd_weight : ∀ ns : List Nat, (∀ n ∈ ns, n < 2 ^ 61) → PyData.weightAll (nd' ns) ≤ 63 * ns.length
  | [], _ => Nat.le_refl _
  | n :: ns, h => by
    have h1 : n < 2 ^ 61 := h n List.mem_cons_self
    have ih := nd_weight ns fun m hm => h m (List.mem_cons_of_mem _ hm)
    have e : PyData.weight (.int (n : Int)) ≤ 62 := by
      simp only [PyData.weight]
      by_cases z : n = 0
      · subst z; decide
      · have := (Nat.log2_lt z).mpr h1
        rw [if_neg (by simpa using z)]
        simp
        omega
    show PyData.weight (.int (n : Int)) + 1 + PyData.weightAll (nd' ns) ≤ 63 * (ns.length + 1)
    omega
theorem nd_len {ns : List Nat} (h : ∀ n ∈ ns, n < 2 ^ 61) (hl : ns.length ≤ 1000) : (PyData.tuple (nd' ns)).shown.length ≤ sizeLine := by
  have h1 := PyData.shown_le 64 (by decide) (.tuple (nd' ns)) (nd_leaves ns h)
  have h2 : PyData.weight (.tuple (nd' ns)) ≤ 63 * ns.length := nd_weight ns h
  rw [sizeLine_eq]
  have h3 : (64 + 2) * PyData.weight (.tuple (nd' ns)) ≤ 66 * (63 * 1000) := Nat.mul_le_mul (by decide) (by omega)
  omega
end Bf
namespace Bf
open PySem PySem.Spec PyProof.Rows L2
/-! ### round orders -/
def rb (q h j : Nat) : List Nat := ((List.range q).map fun i => (j + i) % q).filter fun k => h.testBit k
def ar (q j k : Nat) : Int := ((k : Int) - (j : Int)) % (q : Int)
theorem ar_at {q i : Nat} (j : Nat) (hi : i < q) : ar q j ((j + i) % q) = (i : Int) := by
  unfold ar
  rw [Int.natCast_emod, Int.emod_sub_emod, Int.natCast_add, show (j : Int) + i - j = i by omega]
  exact Int.emod_eq_of_lt (by omega) (by omega)
theorem at_of {q x : Nat} (j : Nat) (hx : x < q) : ∃ i, i < q ∧ (j + i) % q = x := by
  have hq : 0 < q := by omega
  refine ⟨(x + (q - j % q)) % q, Nat.mod_lt _ hq, ?_⟩
  have hj : j % q < q := Nat.mod_lt _ hq
  rw [Nat.add_mod, Nat.mod_mod, ← Nat.add_mod]
  have e : j + (x + (q - j % q)) = x + q * (j / q + 1) := by
    have := Nat.div_add_mod j q
    rw [Nat.mul_add, Nat.mul_one]
    omega
  rw [e, Nat.add_mul_mod_self_left]
  exact Nat.mod_eq_of_lt hx
theorem mem_rb {q h j x : Nat} : x ∈ rb q h j ↔ x < q ∧ h.testBit x = true := by
  unfold rb
  rw [List.mem_filter, List.mem_map]
  constructor
  · rintro ⟨⟨i, hi, rfl⟩, hb⟩
    have hi := List.mem_range.mp hi
    exact ⟨Nat.mod_lt _ (by omega), hb⟩
  · rintro ⟨hx, hb⟩
    obtain ⟨i, hi, e⟩ := at_of j hx
    exact ⟨⟨i, List.mem_range.mpr hi, e⟩, hb⟩
theorem rb_len (q h j : Nat) : (rb q h j).length ≤ q := by
  have h1 := List.length_filter_le (fun k => h.testBit k) ((List.range q).map fun i => (j + i) % q)
  rw [List.length_map, List.length_range] at h1
  exact h1
theorem rb_sorted (q h j : Nat) : (rb q h j).Pairwise (fun a b => ar q j a < ar q j b) := by
  unfold rb
  refine List.Pairwise.filter _ ?_
  rw [List.pairwise_map]
  refine (List.pairwise_lt_range).imp_of_mem fun {a b} ha hb hab => ?_
  rw [ar_at j (List.mem_range.mp ha), ar_at j (List.mem_range.mp hb)]
  omega
theorem ar_inj {q j a b : Nat} (ha : a < q) (hb : b < q) (h : ar q j a = ar q j b) : a = b := by
  obtain ⟨i, hi, rfl⟩ := at_of j ha
  obtain ⟨k, hk, rfl⟩ := at_of j hb
  rw [ar_at j hi, ar_at j hk] at h
  have : i = k := by omega
  rw [this]
theorem uniq_sorted {α : Type} {key : α → Int} : ∀ {l m : List α}, l.Pairwise (fun a b => key a < key b) → m.Pairwise (fun a b => key a < key b) → (∀ x, x ∈ l ↔ x ∈ m) → l = m
  | [], [], _, _, _ => rfl
  | [], b :: m, _, _, h => absurd ((h b).mpr List.mem_cons_self) List.not_mem_nil
  | a :: l, [], _, _, h => absurd ((h a).mp List.mem_cons_self) List.not_mem_nil
  | a :: l, b :: m, hl, hm, h => by
    obtain ⟨l1, l2⟩ := List.pairwise_cons.mp hl
    obtain ⟨m1, m2⟩ := List.pairwise_cons.mp hm
    have e : a = b := by
      rcases List.mem_cons.mp ((h a).mp List.mem_cons_self) with e | ea
      · exact e
      · rcases List.mem_cons.mp ((h b).mpr List.mem_cons_self) with e | eb
        · exact e.symm
        · have x1 := m1 a ea
          have x2 := l1 b eb
          omega
    subst e
    congr 1
    refine uniq_sorted l2 m2 fun x => ⟨fun hx => ?_, fun hx => ?_⟩
    · rcases List.mem_cons.mp ((h x).mp (List.mem_cons_of_mem _ hx)) with e | e
      · subst e
        exact absurd (l1 x hx) (Int.lt_irrefl _)
      · exact e
    · rcases List.mem_cons.mp ((h x).mpr (List.mem_cons_of_mem _ hx)) with e | e
      · subst e
        exact absurd (m1 x hx) (Int.lt_irrefl _)
      · exact e
theorem bl_nodup (n h : Nat) : (bl n h).Nodup := List.Pairwise.filter _ List.nodup_range
theorem rb_eq {q h j : Nat} {rs : List Nat} (hq : q ≤ 60) (hh : h < 2 ^ q) (hp : rs.Perm (bl 60 h)) (hs : rs.Pairwise fun a b => ar q j a ≤ ar q j b) : rs = rb q h j := by
  have h60 : h < 2 ^ 60 := Nat.lt_of_lt_of_le hh (Nat.pow_le_pow_right (by decide) hq)
  have hlt : ∀ x ∈ rs, x < q := fun x hx => by
    have hx2 := (bl_mem h60).mp (hp.mem_iff.mp hx)
    exact Nat.lt_of_not_le fun l => by
      rw [Nat.testBit_lt_two_pow (Nat.lt_of_lt_of_le hh (Nat.pow_le_pow_right (by decide) l))] at hx2
      cases hx2
  have nd : rs.Nodup := hp.nodup_iff.mpr (bl_nodup 60 h)
  have st : rs.Pairwise fun a b => ar q j a < ar q j b := by
    have := List.Pairwise.and hs nd
    refine this.imp_of_mem fun {a b} ha hb hab => ?_
    have hne : ar q j a ≠ ar q j b := fun e => hab.2 (ar_inj (hlt a ha) (hlt b hb) e)
    have := hab.1
    omega
  refine uniq_sorted st (rb_sorted q h j) fun x => ?_
  rw [hp.mem_iff, bl_mem h60, mem_rb]
  constructor
  · exact fun hb => ⟨hlt x (hp.mem_iff.mpr ((bl_mem h60).mpr hb)), hb⟩
  · exact fun z => z.2
theorem rb_mod {q h j : Nat} : rb q h (j % q) = rb q h j := by
  unfold rb
  congr 1
  refine List.map_congr_left fun i _ => ?_
  rw [Nat.add_mod, Nat.mod_mod, ← Nat.add_mod]
theorem rb_mods {q h j k : Nat} (e : j % q = k % q) : rb q h j = rb q h k := by
  rw [← rb_mod (j := j), e, rb_mod]
/-- a ring turned -/
def tw (q by' : Nat) (ks : List Nat) : List Nat := ks.map fun s => (s + by') % q
theorem turn_inj {q a b by' : Nat} (ha : a < q) (hb : b < q) (h : (a + by') % q = (b + by') % q) : a = b := by
  have h1 : ar q by' ((by' + a) % q) = a := ar_at by' ha
  have h2 : ar q by' ((by' + b) % q) = b := ar_at by' hb
  rw [Nat.add_comm by' a, h, Nat.add_comm b by', h2] at h1
  omega
theorem twin_bit {q one by' x : Nat} (hq : q ≤ 60) (hh : one < 2 ^ q) (hx : x < q) : (fb (tw q by' (bl 60 one))).testBit ((x + by') % q) = one.testBit x := by
  have h60 : one < 2 ^ 60 := Nat.lt_of_lt_of_le hh (Nat.pow_le_pow_right (by decide) hq)
  unfold fb
  rw [fold_bit, Nat.zero_testBit, Bool.false_or]
  cases e : one.testBit x with
  | true => exact decide_eq_true (List.mem_map.mpr ⟨x, (bl_mem h60).mpr e, rfl⟩)
  | false =>
    refine decide_eq_false fun z => ?_
    obtain ⟨y, hy, ey⟩ := List.mem_map.mp z
    have hy2 := (bl_mem h60).mp hy
    have hyq : y < q := Nat.lt_of_not_le fun l => by
      rw [Nat.testBit_lt_two_pow (Nat.lt_of_lt_of_le hh (Nat.pow_le_pow_right (by decide) l))] at hy2
      cases hy2
    rw [turn_inj hyq hx ey, e] at hy2
    cases hy2
theorem twin_lt {q one by' : Nat} (hq : 0 < q) : fb (tw q by' (bl 60 one)) < 2 ^ q := fb_lt fun k hk => by
  obtain ⟨y, _, rfl⟩ := List.mem_map.mp hk
  exact Nat.mod_lt _ hq
theorem rb_turn {q one by' s : Nat} (hq0 : 0 < q) (hq : q ≤ 60) (hh : one < 2 ^ q) : rb q (fb (tw q by' (bl 60 one))) (s + by') = tw q by' (rb q one s) := by
  unfold rb tw
  have e : (List.range q).map (fun i => (s + by' + i) % q) = ((List.range q).map fun i => (s + i) % q).map fun k => (k + by') % q := by
    rw [List.map_map]
    refine List.map_congr_left fun i _ => ?_
    show (s + by' + i) % q = ((s + i) % q + by') % q
    rw [Nat.mod_add_mod]
    congr 1
    omega
  rw [e, List.filter_map]
  congr 1
  refine List.filter_congr fun x hx => ?_
  obtain ⟨i, _, rfl⟩ := List.mem_map.mp hx
  exact twin_bit hq hh (Nat.mod_lt _ hq0)
end Bf
namespace Bf
open PySem PySem.Spec PyProof.Rows L2
/-! ### heaps -/
def Keeps (a : Addr) (H H' : Hp) : Prop := ∀ b o, b ≠ a → H b = some o → H' b = some o
theorem Keeps.refl (a : Addr) (H : Hp) : Keeps a H H := fun _ _ _ h => h
theorem Keeps.trans {a : Addr} {H H1 H2 : Hp} (x : Keeps a H H1) (y : Keeps a H1 H2) : Keeps a H H2 := fun b o n h => y b o n (x b o n h)
theorem Keeps.new {a p : Addr} {H H1 : Hp} {o : HO} (x : Keeps a H H1) (h : H1 p = none) : Keeps a H (upd H1 p o) := fun b u n e => by
  have e1 := x b u n e
  rw [upd_ne (ne_of_none e1 h)]
  exact e1
theorem Keeps.at {a : Addr} {H H1 : Hp} {o : HO} (x : Keeps a H H1) : Keeps a H (upd H1 a o) := fun b u n e => by
  rw [upd_ne n]
  exact x b u n e
theorem Keeps.of_same {a : Addr} {H H1 : Hp} (x : Same H H1) : Keeps a H H1 := fun b u _ e => x b u e
theorem same_new {H H1 : Hp} {p : Addr} {o : HO} (x : Same H H1) (h : H1 p = none) : Same H (upd H1 p o) := fun b u e => by
  have e1 := x b u e
  rw [upd_ne (ne_of_none e1 h)]
  exact e1
/-- an expression that gives v, the heap as it was -/
def Gives (t : TE) (σ : L2.St) (H : Hp) (v : V) : Prop := ∀ Q : VK, Q v H → t σ H Q
theorem rd_ifI {tt : TT} {ta tb : TE} {σ : L2.St} {H : Hp} {Q : VK} (b : Bool) (P : Int → Prop) (h0 : ∀ Q' : Bool → Hp → Prop, Q' b H → tt σ H Q') (h1 : b = true → ∃ c : Int, P c ∧ Gives ta σ H (.int c)) (h2 : b = false → ∃ c : Int, P c ∧ Gives tb σ H (.int c))
    (h : ∀ c : Int, P c → Q (.int c) H) : tIf tt ta tb σ H Q := by
  refine h0 _ ?_
  cases b with
  | true => obtain ⟨c, hp, hc⟩ := h1 rfl; exact iteT (hc _ (h c hp))
  | false => obtain ⟨c, hp, hc⟩ := h2 rfl; exact iteF (hc _ (h c hp))
/-- the pot: three numbers at a; n counts what was drawn -/
def Pot (H : Hp) (a : Addr) (n : Nat) : Prop := ∃ x y z : Int, H a = some (.lst [.int x, .int y, .int z]) ∧ 0 ≤ x ∧ 0 ≤ y ∧ y < 2305843009213693952 ∧ 0 ≤ z ∧ z ≤ n
theorem Pot.up {H : Hp} {a : Addr} {n m : Nat} (h : Pot H a n) (l : n ≤ m) : Pot H a m := let ⟨x, y, z, h1, h2, h3, h4, h5, h6⟩ := h; ⟨x, y, z, h1, h2, h3, h4, h5, by omega⟩
theorem Pot.new {H : Hp} {a p : Addr} {n : Nat} {o : HO} (h : Pot H a n) (hp : H p = none) : Pot (upd H p o) a n := let ⟨x, y, z, h1, h2⟩ := h; ⟨x, y, z, by rw [upd_ne (ne_of_none h1 hp)]; exact h1, h2⟩
theorem Pot.same {H H' : Hp} {a : Addr} {n : Nat} (h : Pot H a n) (s : Same H H') : Pot H' a n := let ⟨x, y, z, h1, h2⟩ := h; ⟨x, y, z, s _ _ h1, h2⟩

theorem primes4 (n : Int) (h0 : 0 ≤ n) (h : n < 4) : ∃ v : Int, atI [V.int 2305843009213693951, .int 999999999989, .int 1000000000039, .int 67280421310721] n = some (.int v) ∧ 0 < v := by
  obtain ⟨m, rfl⟩ := Int.eq_ofNat_of_zero_le h0
  match m, h with
  | 0, _ => exact ⟨_, rfl, by decide⟩
  | 1, _ => exact ⟨_, rfl, by decide⟩
  | 2, _ => exact ⟨_, rfl, by decide⟩
  | 3, _ => exact ⟨_, rfl, by decide⟩
theorem nat_of {i : Int} {n : Nat} (h0 : 0 ≤ i) (h : i < n) : ∃ r : Nat, i = (r : Int) ∧ r < n := ⟨i.toNat, by omega, by omega⟩
/-! ### numbers that are not negative -/
theorem op_orN {X : Cx} : OpR X (binaryOp .BitOr) (fun x y H Q => ∃ n m : Nat, x = .int (n : Int) ∧ y = .int (m : Int) ∧ Q (.int ((n ||| m : Nat) : Int)) H) := by
  intro pins s σ H x y v u Q I rx ry h
  obtain ⟨n, m, rfl, rfl, q⟩ := h
  refine op_or pins s σ H _ _ v u Q I rx ry ⟨(n : Int), (m : Int), rfl, rfl, ?_⟩
  show Q (.int (Builtin.bitOr (n : Int) (m : Int))) H
  rw [bitOr_nn (Int.natCast_nonneg n) (Int.natCast_nonneg m)]
  exact q
theorem op_bit {X : Cx} : OpR X (binaryOp .LShift) (fun x y H Q => ∃ k : Nat, x = .int 1 ∧ y = .int (k : Int) ∧ k ≤ 134217727 ∧ Q (.int ((2 ^ k : Nat) : Int)) H) := by
  intro pins s σ H x y v u Q I rx ry h
  obtain ⟨k, rfl, rfl, hk, q⟩ := h
  refine op_oneShl pins s σ H _ _ v u Q I rx ry ⟨k, rfl, rfl, hk, ?_⟩
  rw [Int.natCast_pow] at q
  exact q
theorem op_shrNN {X : Cx} : OpR X (binaryOp .RShift) (fun x y H Q => ∃ n m : Nat, x = .int (n : Int) ∧ y = .int (m : Int) ∧ Q (.int ((n / 2 ^ m : Nat) : Int)) H) := by
  intro pins s σ H x y v u Q I rx ry h
  obtain ⟨n, m, rfl, rfl, q⟩ := h
  refine op_shrN pins s σ H _ _ v u Q I rx ry ⟨(n : Int), m, rfl, rfl, ?_⟩
  rw [Int.natCast_ediv, Int.natCast_pow] at q
  exact q
theorem iop_orN {X : Cx} : OpR X (inplaceOp .BitOr) (fun x y H Q => ∃ n m : Nat, x = .int (n : Int) ∧ y = .int (m : Int) ∧ Q (.int ((n ||| m : Nat) : Int)) H) := by
  intro pins s σ H x y v u Q I rx ry h
  obtain ⟨n, m, rfl, rfl, q⟩ := h
  refine iop_or pins s σ H _ _ v u Q I rx ry ⟨(n : Int), (m : Int), rfl, rfl, ?_⟩
  show Q (.int (Builtin.bitOr (n : Int) (m : Int))) H
  rw [bitOr_nn (Int.natCast_nonneg n) (Int.natCast_nonneg m)]
  exact q
section
variable {K : PySem.W.Frag} {f : Addr} {fd : FuncData}
/-! ### tuples that expressions give -/
theorem sameT {H H' : Hp} {a : Addr} {xs : List V} (e : Same H H') (h : SqT K H a xs) : SqT K H' a xs := by
  rcases h with (h | ⟨o, h⟩) | h
  · exact .inl (.inl (e _ _ h))
  · exact .inl (.inr ⟨o, e _ _ h⟩)
  · exact .inr h
def GT (K : PySem.W.Frag) (t : TE) (σ : L2.St) (H : Hp) (vs : List V) : Prop := ∀ H1, Same H H1 → ∀ Q : VK, (∀ H2 x, Same H1 H2 → SqT K H2 x vs → Q (.ref x) H2) → t σ H1 Q
theorem gt_var {i : Nat} {σ : L2.St} {H : Hp} {b : Addr} {vs : List V} (h : SqT K H b vs) (hi : σ[i]? = some (some (.ref b))) : GT K (tVar i) σ H vs := fun H1 s Q q => ⟨_, hi, q H1 b (Same.refl _) (sameT s h)⟩
theorem gt_rev {te : TE} {σ : L2.St} {H : Hp} {vs : List V} (h : GT K te σ H vs) : GT K (tRevT K te) σ H vs.reverse := fun H1 s Q q => h H1 s _ fun H2 x s2 hx =>
  ⟨x, vs, rfl, hx, fun p np => q _ p (same_new s2 np) (.inl (.inl upd_same))⟩
theorem gt_tup {te : TE} {σ : L2.St} {H : Hp} {i : Nat} {b : Addr} {vs : List V} (h : SqL K H b vs) (hi : σ[i]? = some (some (.ref b))) :
    GT K (tCB (fun xs H Q => ∃ p ys, xs = [.ref p] ∧ ((SqL K H p ys ∧ ∀ l, H l = none → Q (.ref l) (upd H l (.tup ys))) ∨ (SqT K H p ys ∧ Q (.ref p) H))) (tCons (tVar i) tNil)) σ H vs := fun H1 s Q q =>
  ⟨_, hi, b, vs, rfl, .inl ⟨s.seq h, fun p np => q _ p (same_new (Same.refl _) np) (.inl (.inl upd_same))⟩⟩
theorem gt_cut {te : TE} {σ : L2.St} {H : Hp} {vs : List V} {n : Nat} (h : GT K te σ H vs) : GT K (tSl (rSlA K) te tNoPart (tPart (tC (.int (n : Int))))) σ H (vs.take n) := fun H1 s Q q => h H1 s _ fun H2 x s2 hx => by
  refine ⟨_, rfl, x, vs, rfl, hx, fun w => ?_, fun w p np => ?_⟩
  · have e : vs.take n = vs := List.take_of_length_le (by
      have := w.2
      rw [HT.sIx_nat] at this
      omega)
    exact q H2 x s2 (by rw [e]; exact hx)
  · have e : cutV vs none (some (n : Int)) = vs.take n := by
      unfold cutV
      rw [HT.sIx_none, HT.sIx_nat, List.drop_zero, Nat.sub_zero]
      rcases Nat.le_total n vs.length with l | l
      · rw [Nat.min_eq_left l]
      · rw [Nat.min_eq_right l, List.take_of_length_le l, List.take_length]
    rw [e]
    exact q _ p (same_new s2 np) (.inl (.inl upd_same))
theorem gt_cat {ta tb : TE} {σ : L2.St} {H : Hp} {xs ys : List V} (ha : GT K ta σ H xs) (hb : GT K tb σ H ys) (hz : xs.length + ys.length ≤ sizeLine) : GT K (tOp (rCatA K) ta tb) σ H (xs ++ ys) := fun H1 s Q q => ha H1 s _ fun H2 x s2 hx =>
  hb H2 (s.trans s2) _ fun H3 y s3 hy => by
    refine ⟨x, y, xs, ys, rfl, rfl, sameT s3 hx, hy, hz, fun e => ?_, fun _ e => ?_, fun _ _ p np => ?_⟩
    · exact q H3 y (s2.trans s3) (by rw [e]; exact hy)
    · exact q H3 x (s2.trans s3) (by rw [e, List.append_nil]; exact sameT s3 hx)
    · exact q _ p (same_new (s2.trans s3) np) (.inl (.inl upd_same))
theorem gt_rep {ta : TE} {σ : L2.St} {H : Hp} {xs : List V} {n : Nat} (ha : GT K ta σ H xs) (h2 : 2 ≤ n) (h1 : n ≤ 1000) (hz : xs.length ≤ 1000) : GT K (tOp (rRepA K) ta (tC (.int (n : Int)))) σ H (List.replicate n xs).flatten := fun H1 s Q q => ha H1 s _ fun H2 x s2 hx => by
  refine ⟨x, n, xs, rfl, rfl, hx, by omega, by omega, hz, fun e => ?_, fun _ p np => ?_⟩
  · have e2 : (List.replicate n xs).flatten = xs := by
      subst e
      simp
    exact q H2 x s2 (by rw [e2]; exact hx)
  · exact q _ p (same_new s2 np) (.inl (.inl upd_same))
theorem nv_rev (ks : List Nat) : (nv ks).reverse = nv ks.reverse := by unfold nv; rw [List.map_reverse]
theorem nv_take (ks : List Nat) (n : Nat) : (nv ks).take n = nv (ks.take n) := by unfold nv; rw [List.map_take]
theorem nv_app (ks js : List Nat) : nv ks ++ nv js = nv (ks ++ js) := by unfold nv; rw [List.map_append]
theorem nv_rep (ks : List Nat) (n : Nat) : (List.replicate n (nv ks)).flatten = nv (List.replicate n ks).flatten := by unfold nv; rw [List.map_flatten, List.map_replicate]
theorem mem_rep {ks : List Nat} {n x : Nat} : x ∈ (List.replicate (n + 1) ks).flatten ↔ x ∈ ks := by
  constructor
  · intro h
    obtain ⟨l, hl, hx⟩ := List.mem_flatten.mp h
    rw [List.eq_of_mem_replicate hl] at hx
    exact hx
  · exact fun h => List.mem_flatten.mpr ⟨ks, List.mem_replicate.mpr ⟨by omega, rfl⟩, h⟩
theorem same_keeps {H H0 H' : Hp} {p : Addr} (hp : H p = none) (s : Same H H0) (k : Keeps p H0 H') : Same H H' := fun b o e => k b o (ne_of_none e hp) (s b o e)
theorem dp_tup {H : Hp} {a : Addr} {ns : List Nat} (h : SqT K H a (nv ns)) : Dp K H (.ref a) (.tuple (nd' ns)) := .tup h (dp_nv ns)
theorem nd_canAll : ∀ ns : List Nat, PyData.canLayAll0 (nd' ns) = true
  | [] => rfl
  | n :: ns => nd_canAll ns
theorem nd_can (ns : List Nat) : PyData.canLay0 (.tuple (nd' ns)) = true := nd_canAll ns
theorem nd_dep (ns : List Nat) : PyData.depth (.tuple (nd' ns)) ≤ 2 := by
  have := nd_depth ns
  show PyData.depthAll (nd' ns) + 1 ≤ 2
  omega
theorem nd_shaped (ns : List Nat) : SeqAt.shaped (.tuple (nd' ns)) = true := by
  unfold SeqAt.shaped
  rw [nd_can, Bool.true_and]
  exact decide_eq_true (Nat.le_trans (nd_dep ns) (by decide))
theorem bl_small {n h i : Nat} (hn : n ≤ 60) (hi : i ∈ bl n h) : i < 2 ^ 61 := Nat.lt_trans (Nat.lt_of_lt_of_le (bl_lt hi) hn) (by decide)
theorem log_small {n : Nat} (h : n < 2 ^ 61) : (n : Int).natAbs.log2 < 1920 := by
  by_cases z : n = 0
  · subst z; decide
  · have := (Nat.log2_lt z).mpr h
    simpa using (Nat.lt_of_lt_of_le this (by decide) : n.log2 < 1920)
theorem kb1 {x n : Str} {st : Stmt} (F : Fun K x x st f fd) (h1 : ∀ (kV doc pm : Value) (an : Option Addr) (cdv ct u : Value), bindArgs (PySem.W.fnOf x x (defArgs st) (defBody st) (defScope st) .none kV doc pm an cdv ct) ⟨[], [(n, u)]⟩ = pure [(n, u)])
    (h2 : ∀ (kV doc pm : Value) (an : Option Addr) (cdv ct u : Value), bindArgs (PySem.W.fnOf x x (defArgs st) (defBody st) (defScope st) .none kV doc pm an cdv ct) ⟨[u], []⟩ = pure [(n, u)]) : KBinds K fd [n] [n] (fun us ws => us ++ ws) (fun vs zs => vs ++ zs) := by
  obtain ⟨oc, od, kV, doc, pm, an, cdv, ct, osl, rfl, lk, hcd⟩ := F.ex
  refine ⟨fun s us ws _ hl => ?_, fun r1 r2 => r1.append r2⟩
  match us, ws, hl with
  | [], [u], _ => exact .of_eq (h1 kV doc pm an cdv ct u)
  | [u], [], _ => exact .of_eq (h2 kV doc pm an cdv ct u)
  | [], [], hl => cases hl
  | [], _ :: _ :: _, hl => exact absurd (Nat.succ.inj hl) (by simp)
  | [_], _ :: _, hl => exact absurd (Nat.succ.inj hl) (by simp)
  | _ :: _ :: _, _, hl => exact absurd (Nat.succ.inj hl) (by simp)
end
/-- where a def of the top stands -/
structure DefAt (K : PySem.W.Frag) (x : Str) (st : Stmt) (f : Addr) : Prop where
  at_ : PySem.W.nsIn K mainGlobals x = some (some (.ref f))
  fn : ∃ fd, Fun K x x st f fd
theorem mkD {K : PySem.W.Frag} {x : Str} {st : Stmt} {f : Addr} {oc kV doc pm cdv ct : Value} {od an : Option Addr} {osl : Array (Option Value)} (a : PySem.W.nsIn K mainGlobals x = some (some (.ref f)))
    (l : K.lookup f = some ⟨oc, od, .func (PySem.W.fnOf x x (defArgs st) (defBody st) (defScope st) .none kV doc pm an cdv ct), osl⟩) (c : PySem.W.codeIn K cdv x = true) (k : PySem.W.keepIn K (.ref f) = true) : DefAt K x st f := ⟨a, _, fun_mk (st := st) l c k⟩

/-! ### tables and pots -/
open LamX NdefX
def KT (a : Addr) (H H' : Hp) : Prop := ∀ b o, b ≠ a → H b = some o → (∀ ps, o ≠ .tbl ps) → H' b = some o
theorem KT.refl (a : Addr) (H : Hp) : KT a H H := fun _ _ _ h _ => h
theorem KT.trans {a : Addr} {H H1 H2 : Hp} (x : KT a H H1) (y : KT a H1 H2) : KT a H H2 := fun b o n h t => y b o n (x b o n h t) t
theorem KT.k {a : Addr} {H H1 : Hp} (x : Keeps a H H1) : KT a H H1 := fun b o n h _ => x b o n h
theorem KT.e {a : Addr} {H H1 : Hp} (x : ExtN H H1) : KT a H H1 := fun b o _ h t => x b o h t
theorem ExtN.s {H H1 : Hp} (x : Same H H1) : ExtN H H1 := ExtN.of x
theorem Pot.ext {H H' : Hp} {a : Addr} {n : Nat} (h : Pot H a n) (s : ExtN H H') : Pot H' a n := let ⟨x, y, z, h1, h2⟩ := h; ⟨x, y, z, s _ _ h1 (fun ps z => nomatch z), h2⟩
theorem tabs_keeps {T : List (Addr × Str)} {H H' : Hp} {a : Addr} {m : Nat} (p : Pot H a m) (t : Tabs T H) (k : Keeps a H H') : Tabs T H' := fun q hq => by
  obtain ⟨x, y, z, hH, _⟩ := p
  obtain ⟨ps, h1, h2, h3⟩ := t q hq
  refine ⟨ps, k _ _ (fun e => ?_) h1, h2, fun pos cv hc => ?_⟩
  · rw [e, hH] at h1
    cases h1
  · obtain ⟨c, e1, e2⟩ := h3 pos cv hc
    refine ⟨c, e1, k _ _ (fun e => ?_) e2⟩
    rw [e, hH] at e2
    unfold CodeO at e2
    cases e2
theorem ext_new {H H1 : Hp} {p : Addr} {o : HO} (x : ExtN H H1) (h : H1 p = none) : ExtN H (upd H1 p o) := fun b u e t => by
  have e1 := x b u e t
  rw [upd_ne (ne_of_none e1 h)]
  exact e1
theorem tabs_new {T : List (Addr × Str)} {H : Hp} {p : Addr} {o : HO} (t : Tabs T H) (h : H p = none) : Tabs T (upd H p o) := t.ext fun b u e => by
  rw [upd_ne (ne_of_none e h)]
  exact e
theorem extT {K : PySem.W.Frag} {H H' : Hp} {a : Addr} {xs : List V} (e : ExtN H H') (h : SqT K H a xs) : SqT K H' a xs := ext_tup e h
theorem extL {K : PySem.W.Frag} {H H' : Hp} {a : Addr} {xs : List V} (e : ExtN H H') (h : SqL K H a xs) : SqL K H' a xs := by
  rcases h with (h | ⟨o, h⟩) | h
  · exact .inl (.inl (e _ _ h (fun ps z => nomatch z)))
  · exact .inl (.inr ⟨o, e _ _ h (fun ps z => nomatch z)⟩)
  · exact .inr h
theorem ext_kt {H H0 H' : Hp} {p : Addr} (hp : H p = none) (s : ExtN H H0) (k : KT p H0 H') : ExtN H H' := fun b o e t => k b o (ne_of_none e hp) (s b o e t) t
/-- a def whose body makes a lambda: its code object is at c -/
structure FunT (K : PySem.W.Frag) (x : Str) (st : Stmt) (f : Addr) (fd : FuncData) (c : Addr) : Prop where
  ex : ∃ (oc : Value) (od : Option Addr) (kV doc pm : Value) (an : Option Addr) (ct : Value) (osl : Array (Option Value)),
    fd = PySem.W.fnOf x x (defArgs st) (defBody st) (defScope st) .none kV doc pm an (.ref c) ct ∧ K.lookup f = some ⟨oc, od, .func fd, osl⟩ ∧ PySem.W.codeIn K (.ref c) x = true
  kp : PySem.W.keepIn K (.ref f) = true
theorem FunT.ok {P : Program} {w : World} {K : PySem.W.Frag} {mg : Str → Option Value} {base : Heap} {x : Str} {st : Stmt} {f c : Addr} {fd : FuncData} {N ps : List Str} {k : Nat} {sp : Sp} (F : FunT K x st f fd c) (S : FnScope N ps (defScope st)) (len : ∀ vs H Q E, sp vs H Q E → vs.length = ps.length)
    (hbody : ∀ (A : Around) (outer : List Env) (s : Shared) (H : Hp) (vs : List V) (Q : VK) (E : XK), Room k (A.deeper (envOfC x (defScope st) s.heap.objs.size f (.ref c))) → sp vs H Q E →
      ∃ t, PSs (cxOf CX0 P w K mg base N x (defScope st) f (.ref c) A outer s H E).nox (defBody st) t ∧ t { nx := fun _ H' => Q .non H', rt := Q } (start N vs) H) : FnOk P w K mg base CX0 (k + 1) f fd ps sp := by
  obtain ⟨oc, od, kV, doc, pm, an, ct, osl, rfl, lk, hcd⟩ := F.ex
  refine fn_of lk hcd S len fun A outer s H vs Q E hr hs => ?_
  obtain ⟨t, h, q⟩ := hbody A outer s H vs Q E hr hs
  exact ⟨t, h.nox, q⟩
theorem FunT.fn {K : PySem.W.Frag} {x : Str} {st : Stmt} {f c : Addr} {fd : FuncData} (F : FunT K x st f fd c) : Fun K x x st f fd := let ⟨oc, od, kV, doc, pm, an, ct, osl, e, lk, hcd⟩ := F.ex; ⟨⟨oc, od, kV, doc, pm, an, .ref c, ct, osl, e, lk, hcd⟩, F.kp⟩
abbrev lamNm : Str := (("round_bits" : Str) ++ (".<locals>." : Str)) ++ ("<lambda>" : Str)
end Bf
namespace Bf
open PySem PySem.Spec PyProof.Rows L2
/-! ### ways -/
def wf (s : Nat) (ks : List Nat) : Nat := ks.foldl (fun h k => h ^^^ 2 ^ k) s
def wl (s : Nat) (ks : List Nat) : List Nat := (List.range (ks.length + 1)).map fun i => wf s (ks.take i)
theorem wf_snoc (s : Nat) (ks : List Nat) (k : Nat) : wf s (ks ++ [k]) = wf s ks ^^^ 2 ^ k := by
  unfold wf
  rw [List.foldl_append]
  rfl
theorem wl_snoc (s : Nat) (ks : List Nat) (k : Nat) : wl s (ks ++ [k]) = wl s ks ++ [wf s ks ^^^ 2 ^ k] := by
  unfold wl
  rw [List.length_append, List.length_singleton, List.range_succ, List.map_append]
  congr 1
  · refine List.map_congr_left fun i hi => ?_
    have := List.mem_range.mp hi
    rw [List.take_append_of_le_length (by omega)]
  · show [wf s ((ks ++ [k]).take (ks.length + 1))] = _
    rw [List.take_of_length_le (by rw [List.length_append]; simp), wf_snoc]
theorem wl_last (s : Nat) (ks : List Nat) : ∃ l, wl s ks = l ++ [wf s ks] := by
  refine ⟨(List.range ks.length).map fun i => wf s (ks.take i), ?_⟩
  unfold wl
  rw [List.range_succ, List.map_append]
  simp
theorem wl_len (s : Nat) (ks : List Nat) : (wl s ks).length = ks.length + 1 := by
  unfold wl
  rw [List.length_map, List.length_range]
theorem wl_nil (s : Nat) : wl s [] = [s] := rfl
theorem wl_at {s : Nat} {ks : List Nat} {i : Nat} (h : i ≤ ks.length) : (wl s ks)[i]? = some (wf s (ks.take i)) := by
  unfold wl
  rw [List.getElem?_map, List.getElem?_range (by omega)]
  rfl
theorem wf_lt {q : Nat} : ∀ {ks : List Nat} {s : Nat}, s < 2 ^ q → (∀ k ∈ ks, k < q) → wf s ks < 2 ^ q
  | [], s, h, _ => h
  | k :: ks, s, h, hk => wf_lt (ks := ks) (Nat.xor_lt_two_pow h (Nat.pow_lt_pow_right (by decide) (hk k List.mem_cons_self))) fun x hx => hk x (List.mem_cons_of_mem _ hx)
theorem wf_xor : ∀ (ks : List Nat) (s : Nat), wf s ks = s ^^^ wf 0 ks
  | [], s => by simp [wf]
  | k :: ks, s => by
    have h1 := wf_xor ks (s ^^^ 2 ^ k)
    have h2 := wf_xor ks (0 ^^^ 2 ^ k)
    show wf (s ^^^ 2 ^ k) ks = s ^^^ wf (0 ^^^ 2 ^ k) ks
    rw [h1, h2, Nat.zero_xor, Nat.xor_assoc]
theorem wf_bit {i : Nat} : ∀ {ks : List Nat}, ks.Nodup → (wf 0 ks).testBit i = decide (i ∈ ks)
  | [], _ => by simp [wf]
  | k :: ks, nd => by
    obtain ⟨n1, n2⟩ := List.nodup_cons.mp nd
    have h2 := wf_xor ks (0 ^^^ 2 ^ k)
    show (wf (0 ^^^ 2 ^ k) ks).testBit i = _
    rw [h2, Nat.zero_xor, Nat.testBit_xor, wf_bit n2, Nat.testBit_two_pow]
    by_cases e : i = k
    · subst e
      simp [n1]
    · have e2 : ¬ k = i := fun z => e z.symm
      simp [e, e2]
theorem rb_nodup (q h j : Nat) : (rb q h j).Nodup := (rb_sorted q h j).imp fun {a b} hab e => by
  subst e
  exact Int.lt_irrefl _ hab
theorem wf_rb {q d j : Nat} (hd : d < 2 ^ q) : wf 0 (rb q d j) = d := by
  refine Nat.eq_of_testBit_eq fun i => ?_
  rw [wf_bit (rb_nodup q d j)]
  cases e : d.testBit i with
  | true =>
    refine decide_eq_true (mem_rb.mpr ⟨Nat.lt_of_not_le fun l => ?_, e⟩)
    rw [Nat.testBit_lt_two_pow (Nat.lt_of_lt_of_le hd (Nat.pow_le_pow_right (by decide) l))] at e
    cases e
  | false =>
    refine decide_eq_false fun z => ?_
    rw [(mem_rb.mp z).2] at e
    cases e
/-- the turns behind the first, so many of them -/
def tp (q d j n : Nat) : List Nat := ((List.range n).map fun i => (j + (1 + i)) % q).filter fun k => d.testBit k
theorem tp_succ (q d j n : Nat) : tp q d j (n + 1) = tp q d j n ++ (if d.testBit ((j + (1 + n)) % q) = true then [(j + (1 + n)) % q] else []) := by
  unfold tp
  rw [List.range_succ, List.map_append, List.filter_append]
  cases e : d.testBit ((j + (1 + n)) % q) <;> simp [e]
theorem tp_len (q d j n : Nat) : (tp q d j n).length ≤ n := by
  have h1 := List.length_filter_le (fun k => d.testBit k) ((List.range n).map fun i => (j + (1 + i)) % q)
  rw [List.length_map, List.length_range] at h1
  exact h1
theorem tp_lt {q d j n k : Nat} (hq : 0 < q) (h : k ∈ tp q d j n) : k < q := by
  unfold tp at h
  obtain ⟨i, _, rfl⟩ := List.mem_map.mp (List.mem_filter.mp h).1
  exact Nat.mod_lt _ hq
theorem rb_split {q d j : Nat} (hj : j < q) : rb q d j = (if d.testBit j = true then [j] else []) ++ tp q d j (q - 1) := by
  unfold rb tp
  obtain ⟨n, rfl⟩ : ∃ n, q = n + 1 := ⟨q - 1, by omega⟩
  rw [List.range_succ_eq_map, List.map_cons, Nat.add_sub_cancel, Nat.add_zero, Nat.mod_eq_of_lt hj, List.map_map]
  have e : (List.range n).map ((fun i => (j + i) % (n + 1)) ∘ Nat.succ) = (List.range n).map fun i => (j + (1 + i)) % (n + 1) := List.map_congr_left fun i _ => by
    show (j + (i + 1)) % (n + 1) = _
    rw [Nat.add_comm i 1]
  rw [e]
  cases eb : d.testBit j <;> simp [eb]
/-- the bits crossed in tree j -/
def cl (q d j : Nat) : List Nat := j :: tp q d j (q - 1) ++ (if d.testBit j = true then [] else [j])
theorem cl_in {q d j : Nat} (hj : j < q) (h : d.testBit j = true) : cl q d j = rb q d j := by
  rw [rb_split hj]
  unfold cl
  simp [h]
theorem cl_out {q d j : Nat} (hj : j < q) (h : d.testBit j = false) : cl q d j = [j] ++ rb q d j ++ [j] := by
  rw [rb_split hj]
  unfold cl
  simp [h]
theorem cl_lt {q d j k : Nat} (hj : j < q) (h : k ∈ cl q d j) : k < q := by
  unfold cl at h
  rcases List.mem_append.mp h with h | h
  · rcases List.mem_cons.mp h with rfl | h
    · exact hj
    · exact tp_lt (by omega) h
  · split at h
    · exact absurd h List.not_mem_nil
    · rw [List.mem_singleton.mp h]
      exact hj
theorem cl_len (q d j : Nat) (hq : 0 < q) : (cl q d j).length ≤ q + 1 := by
  unfold cl
  have := tp_len q d j (q - 1)
  rw [List.length_append, List.length_cons]
  split <;> simp <;> omega
theorem cl_ne (q d j : Nat) : cl q d j ≠ [] := by
  unfold cl
  simp
theorem wf_cl {q d j : Nat} (hj : j < q) (hd : d < 2 ^ q) (s : Nat) : wf s (cl q d j) = s ^^^ d := by
  rw [wf_xor]
  congr 1
  cases e : d.testBit j with
  | true => rw [cl_in hj e, wf_rb hd]
  | false =>
    rw [cl_out hj e, wf_snoc]
    have h1 : wf 0 ([j] ++ rb q d j) = 2 ^ j ^^^ d := by
      show wf (0 ^^^ 2 ^ j) (rb q d j) = _
      rw [wf_xor, wf_rb hd, Nat.zero_xor]
    rw [h1, Nat.xor_comm (2 ^ j) d, Nat.xor_assoc, Nat.xor_self, Nat.xor_zero]
end Bf
namespace Bf
open PySem PySem.Spec PyProof.Rows L2 LamX NdefX
theorem op_xorN {X : Cx} : OpR X (binaryOp .BitXor) (fun x y H Q => ∃ n m : Nat, x = .int (n : Int) ∧ y = .int (m : Int) ∧ Q (.int ((n ^^^ m : Nat) : Int)) H) := by
  intro pins s σ H x y v u Q I rx ry h
  obtain ⟨n, m, rfl, rfl, q⟩ := h
  refine op_xor pins s σ H _ _ v u Q I rx ry ⟨(n : Int), (m : Int), rfl, rfl, ?_⟩
  show Q (.int (Builtin.bitXor (n : Int) (m : Int))) H
  rw [Bits.bitXor_pp (Int.natCast_nonneg n) (Int.natCast_nonneg m)]
  exact q
theorem op_modNN {X : Cx} : OpR X (binaryOp .Mod) (fun x y H Q => ∃ n m : Nat, x = .int (n : Int) ∧ y = .int (m : Int) ∧ 0 < m ∧ Q (.int ((n % m : Nat) : Int)) H) := by
  intro pins s σ H x y v u Q I rx ry h
  obtain ⟨n, m, rfl, rfl, hm, q⟩ := h
  refine op_mod pins s σ H _ _ v u Q I rx ry ⟨(n : Int), (m : Int), rfl, rfl, (show (0 : Int) < (m : Int) by omega), ?_⟩
  rw [Int.natCast_emod] at q
  exact q
/-! ### defs with source=0 behind a star -/
abbrev FunS (K : PySem.W.Frag) (x : Str) (st : Stmt) (f : Addr) (fd : FuncData) : Prop := FunD K x x (defArgs st) (defBody st) (defScope st) [] [("source", .int 0)] f fd
theorem FunS.go {P : Program} {w : World} {K : PySem.W.Frag} {mg : Str → Option Value} {base : Heap} {x : Str} {st : Stmt} {f : Addr} {fd : FuncData} {N ps : List Str} {k : Nat} {sp : Sp} (F : FunS K x st f fd) (S : FnScope N ps (defScope st)) (len : ∀ vs H Q E, sp vs H Q E → vs.length = ps.length)
    (hbody : ∀ (cdv : Value) (A : Around) (outer : List Env) (s : Shared) (H : Hp) (vs : List V) (Q : VK) (E : XK), Room k (A.deeper (envOfC x (defScope st) s.heap.objs.size f cdv)) → sp vs H Q E →
      ∃ t, PSs (cxOf CX0 P w K mg base N x (defScope st) f cdv A outer s H E).nox (defBody st) t ∧ t { nx := fun _ H' => Q .non H', rt := Q } (start N vs) H) : FnOk P w K mg base CX0 (k + 1) f fd ps sp :=
  FunD.ok F S len fun cdv A outer s H vs Q E hr hs => let ⟨t, h, q⟩ := hbody cdv A outer s H vs Q E hr hs; ⟨t, h.nox, q⟩
def g3 {α : Type} (us ws : List α) : List α := match us, ws with
  | [a, b, c], [d] => [a, b, c, d]
  | _, _ => []
theorem g3_rel {vs zs : List V} {us ws : List Value} (r1 : Vals vs us) (r2 : Vals zs ws) : Vals (g3 vs zs) (g3 us ws) := by
  match r1, r2 with
  | .nil, _ => exact .nil
  | .cons _ .nil, _ => exact .nil
  | .cons _ (.cons _ .nil), _ => exact .nil
  | .cons _ (.cons _ (.cons _ .nil)), .nil => exact .nil
  | .cons a (.cons b (.cons c .nil)), .cons d .nil => exact .cons a (.cons b (.cons c (.cons d .nil)))
  | .cons _ (.cons _ (.cons _ .nil)), .cons _ (.cons _ _) => exact .nil
  | .cons _ (.cons _ (.cons _ (.cons _ _))), _ => exact .nil
theorem g3_len {us ws : List Value} (h : (g3 us ws).length = 4) : ∃ a b c d, us = [a, b, c] ∧ ws = [d] := by
  match us, ws, h with
  | [a, b, c], [d], _ => exact ⟨a, b, c, d, rfl, rfl⟩
  | [], _, h => cases h
  | [_], _, h => cases h
  | [_, _], _, h => cases h
  | [_, _, _], [], h => cases h
  | [_, _, _], _ :: _ :: _, h => cases h
  | _ :: _ :: _ :: _ :: _, _, h => cases h
theorem kbS {K : PySem.W.Frag} {x : Str} {st : Stmt} {f : Addr} {fd : FuncData} (F : FunS K x st f fd) (h : ∀ (kV doc pm : Value) (an : Option Addr) (cdv ct a b c d : Value), bindArgs (PySem.W.fnOf x x (defArgs st) (defBody st) (defScope st) .none kV doc pm an cdv ct) ⟨[a, b, c], [(("source" : Str), d)]⟩ = pure ([("q", a), ("hand", b), ("j", c), ("source", d)] : List (Str × Value))) :
    KBinds K fd ["q", "hand", "j", "source"] ["source"] g3 g3 := by
  obtain ⟨oc, od, dV, kV, doc, pm, an, cdv, ct, osl, rfl, lk, hcd, hD, hK⟩ := F.ex
  rcases hD with ⟨_, rfl⟩ | ⟨z, _⟩
  · refine ⟨fun s us ws _ hl => ?_, fun r1 r2 => g3_rel r1 r2⟩
    obtain ⟨a, b, c, d, rfl, rfl⟩ := g3_len hl
    exact .of_eq (h kV doc pm an cdv ct a b c d)
  · exact absurd rfl z
/-! ### tuples that expressions give, tables aside -/
def GE (K : PySem.W.Frag) (T : List (Addr × Str)) (t : TE) (σ : L2.St) (H : Hp) (vs : List V) : Prop := ∀ H1, ExtN H H1 → Tabs T H1 → ∀ Q : VK, (∀ H2 x, ExtN H1 H2 → Tabs T H2 → SqT K H2 x vs → Q (.ref x) H2) → t σ H1 Q
theorem ge_cat {K : PySem.W.Frag} {T : List (Addr × Str)} {ta tb : TE} {σ : L2.St} {H : Hp} {xs ys : List V} (ha : GE K T ta σ H xs) (hb : GE K T tb σ H ys) (hz : xs.length + ys.length ≤ sizeLine) : GE K T (tOp (rCatA K) ta tb) σ H (xs ++ ys) := fun H1 s t Q q => ha H1 s t _ fun H2 x s2 t2 hx =>
  hb H2 (s.trans s2) t2 _ fun H3 y s3 t3 hy => by
    refine ⟨x, y, xs, ys, rfl, rfl, extT s3 hx, hy, hz, fun e => ?_, fun _ e => ?_, fun _ _ p np => ?_⟩
    · exact q H3 y (s2.trans s3) t3 (by rw [e]; exact hy)
    · exact q H3 x (s2.trans s3) t3 (by rw [e, List.append_nil]; exact extT s3 hx)
    · exact q _ p (ext_new (s2.trans s3) np) (tabs_new t3 np) (.inl (.inl upd_same))
theorem ge_one {K : PySem.W.Frag} {T : List (Addr × Str)} {i : Nat} {σ : L2.St} {H : Hp} {v : V} (hi : σ[i]? = some (some v)) : GE K T (tTup (tCons (tVar i) tNil)) σ H [v] := fun H1 s t Q q =>
  ⟨v, hi, (by show 1 ≤ sizeLine; decide), fun p np => q _ p (ext_new (ExtN.refl H1) np) (tabs_new t np) (.inl (.inl upd_same))⟩
end Bf
namespace Bf
open PySem PySem.Spec PyProof.Rows L2
/-! ### who hears whom -/
theorem sorted_last {α : Type} {key : α → Int} {k : α} : ∀ {l : List α}, l.Pairwise (fun a b => key a < key b) → (l.getLast? = some k ↔ k ∈ l ∧ ∀ x ∈ l, key x ≤ key k)
  | [], _ => by simp
  | [a], _ => by
    simp only [List.getLast?_singleton, Option.some.injEq, List.mem_singleton]
    constructor
    · rintro rfl
      exact ⟨rfl, fun x hx => by rw [hx]; exact Int.le_refl _⟩
    · exact fun h => h.1.symm
  | a :: b :: l, hp => by
    obtain ⟨h1, h2⟩ := List.pairwise_cons.mp hp
    have ih := sorted_last (k := k) h2
    rw [List.getLast?_cons_cons, ih]
    constructor
    · rintro ⟨m, h⟩
      refine ⟨List.mem_cons_of_mem _ m, fun x hx => ?_⟩
      rcases List.mem_cons.mp hx with rfl | hx
      · exact Int.le_of_lt (h1 k m)
      · exact h x hx
    · rintro ⟨m, h⟩
      have hb := h1 b List.mem_cons_self
      have hb2 := h b (List.mem_cons_of_mem _ List.mem_cons_self)
      rcases List.mem_cons.mp m with rfl | m
      · omega
      · exact ⟨m, fun x hx => h x (List.mem_cons_of_mem _ hx)⟩
theorem bit_xor (d k x : Nat) : (d ^^^ 2 ^ k).testBit x = (d.testBit x ^^ decide (k = x)) := by rw [Nat.testBit_xor, Nat.testBit_two_pow]
theorem lt_of_bit {d q x : Nat} (hd : d < 2 ^ q) (h : d.testBit x = true) : x < q := Nat.lt_of_not_le fun l => by
  rw [Nat.testBit_lt_two_pow (Nat.lt_of_lt_of_le hd (Nat.pow_le_pow_right (by decide) l))] at h
  cases h
theorem ar_self {q j : Nat} : ar q j j = 0 := by
  unfold ar
  rw [Int.sub_self, Int.zero_emod]
theorem ar_nn {q j x : Nat} (hq : 0 < q) : 0 ≤ ar q j x := Int.emod_nonneg _ (by omega)
theorem ar_lt {q j x : Nat} (hq : 0 < q) : ar q j x < q := Int.emod_lt_of_pos _ (by omega)
/-- k is the last bit crossed to the hand across by k -/
def Hr (q d j k : Nat) : Prop := (cl q (d ^^^ 2 ^ k) j).getLast? = some k
theorem hr_iff {q d j k : Nat} (hj : j < q) (hk : k < q) (hd : d < 2 ^ q) : Hr q d j k ↔ (k = j ∧ (d = 0 ∨ d.testBit j = true)) ∨ (d.testBit j = true ∧ k ≠ j ∧ ∀ x, d.testBit x = true → ar q j x < ar q j k) := by
  have hq : 0 < q := by omega
  have hd' : d ^^^ 2 ^ k < 2 ^ q := Nat.xor_lt_two_pow hd (Nat.pow_lt_pow_right (by decide) hk)
  have bj := bit_xor d k j
  unfold Hr
  by_cases e : k = j
  · subst e
    rw [decide_eq_true rfl] at bj
    cases b : d.testBit k with
    | true =>
      rw [b] at bj
      rw [cl_out hj bj, List.getLast?_append, List.getLast?_singleton]
      simp
    | false =>
      rw [b] at bj
      rw [cl_in hj bj, sorted_last (rb_sorted q _ k)]
      constructor
      · rintro ⟨m, h⟩
        refine .inl ⟨rfl, .inl ?_⟩
        refine Nat.eq_of_testBit_eq fun x => ?_
        rw [Nat.zero_testBit]
        cases bx : d.testBit x with
        | false => rfl
        | true =>
          exfalso
          have hx : x < q := lt_of_bit hd bx
          have hxk : k ≠ x := fun z => by rw [z, bx] at b; cases b
          have hx2 : x ∈ rb q (d ^^^ 2 ^ k) k := mem_rb.mpr ⟨hx, by rw [bit_xor, bx, decide_eq_false hxk]; rfl⟩
          have h1 := h x hx2
          rw [ar_self] at h1
          have h2 := ar_nn (q := q) (j := k) (x := x) hq
          have h3 : ar q k x = ar q k k := by rw [ar_self]; omega
          exact hxk (ar_inj hx hk h3).symm
      · rintro (⟨_, h | h⟩ | ⟨h, _⟩)
        · subst h
          refine ⟨mem_rb.mpr ⟨hk, bj⟩, fun x hx => ?_⟩
          have := (mem_rb.mp hx).2
          rw [bit_xor, Nat.zero_testBit] at this
          have hx : k = x := by simpa using this
          rw [hx]
          exact Int.le_refl _
        · cases h
        · cases h
  · rw [decide_eq_false e, Bool.xor_false] at bj
    cases b : d.testBit j with
    | false =>
      rw [b] at bj
      rw [cl_out hj bj]
      constructor
      · intro h
        rw [List.getLast?_append, List.getLast?_singleton] at h
        exact absurd (Option.some.inj h).symm e
      · rintro (⟨h, _⟩ | ⟨h, _⟩)
        · exact absurd h e
        · cases h
    | true =>
      rw [b] at bj
      rw [cl_in hj bj, sorted_last (rb_sorted q _ j)]
      constructor
      · rintro ⟨m, h⟩
        refine .inr ⟨rfl, e, fun x bx => ?_⟩
        have m2 := (mem_rb.mp m).2
        have hkx : k ≠ x := fun z => by
          rw [bit_xor, z, bx, decide_eq_true rfl] at m2
          cases m2
        have hx : x < q := lt_of_bit hd bx
        have h1 := h x (mem_rb.mpr ⟨hx, by rw [bit_xor, bx, decide_eq_false hkx]; rfl⟩)
        have h2 : ar q j x ≠ ar q j k := fun z => hkx (ar_inj hx hk z).symm
        omega
      · rintro (⟨h, _⟩ | ⟨_, _, h⟩)
        · exact absurd h e
        · have bk : d.testBit k = false := by
            cases z : d.testBit k with
            | false => rfl
            | true => exact absurd (h k z) (Int.lt_irrefl _)
          refine ⟨mem_rb.mpr ⟨hk, by rw [bit_xor, bk, decide_eq_true rfl]; rfl⟩, fun x hx => ?_⟩
          by_cases hkx : k = x
          · rw [hkx]
            exact Int.le_refl _
          · have hx2 := (mem_rb.mp hx).2
            rw [bit_xor, decide_eq_false hkx, Bool.xor_false] at hx2
            exact Int.le_of_lt (h x hx2)
theorem xor_pow_inj {h a b : Nat} (e : h ^^^ 2 ^ a = h ^^^ 2 ^ b) : a = b := by
  have : 2 ^ a = 2 ^ b := by
    have := congrArg (h ^^^ ·) e
    simpa [← Nat.xor_assoc] using this
  exact (Nat.pow_right_inj (by decide)).mp this
/-- the places behind p -/
def onw (q h j p n : Nat) : List Nat := (List.range n).map fun i => h ^^^ 2 ^ ((j + (p + i)) % q)
theorem onw_succ (q h j p n : Nat) : onw q h j p (n + 1) = onw q h j p n ++ [h ^^^ 2 ^ ((j + (p + n)) % q)] := by
  unfold onw
  rw [List.range_succ, List.map_append]
  rfl
theorem onw_len (q h j p n : Nat) : (onw q h j p n).length = n := by
  unfold onw
  rw [List.length_map, List.length_range]
theorem hears_mem {q h j d p : Nat} (hj : j < q) (hd : d < 2 ^ q) (b : d.testBit j = true) (hp : ∀ x, d.testBit x = true → ar q j x ≤ (p : Int)) (hp2 : ∃ x, d.testBit x = true ∧ ar q j x = (p : Int)) (x : Nat) :
    x ∈ (h ^^^ 2 ^ j) :: onw q h j (p + 1) (q - (p + 1)) ↔ ∃ k, k < q ∧ x = h ^^^ 2 ^ k ∧ Hr q d j k := by
  have hq : 0 < q := by omega
  constructor
  · intro hx
    rcases List.mem_cons.mp hx with rfl | hx
    · exact ⟨j, hj, rfl, (hr_iff hj hj hd).mpr (.inl ⟨rfl, .inr b⟩)⟩
    · unfold onw at hx
      obtain ⟨i, hi, rfl⟩ := List.mem_map.mp hx
      have hi := List.mem_range.mp hi
      have hk : (j + (p + 1 + i)) % q < q := Nat.mod_lt _ hq
      have ea := ar_at (q := q) (i := p + 1 + i) j (by omega)
      refine ⟨_, hk, rfl, (hr_iff hj hk hd).mpr (.inr ⟨b, fun z => ?_, fun x bx => ?_⟩)⟩
      · rw [z, ar_self] at ea
        omega
      · have := hp x bx
        rw [ea]
        omega
  · rintro ⟨k, hk, rfl, hr⟩
    rcases (hr_iff hj hk hd).mp hr with ⟨rfl, _⟩ | ⟨_, hne, hlt⟩
    · exact List.mem_cons_self
    · obtain ⟨i, hi, e⟩ := at_of j hk
      have ea := ar_at (q := q) (i := i) j hi
      rw [e] at ea
      obtain ⟨x, bx, ex⟩ := hp2
      have h1 := hlt x bx
      rw [ea, ex] at h1
      refine List.mem_cons_of_mem _ (List.mem_map.mpr ⟨i - (p + 1), List.mem_range.mpr (by omega), ?_⟩)
      have : p + 1 + (i - (p + 1)) = i := by omega
      show h ^^^ 2 ^ ((j + (p + 1 + (i - (p + 1)))) % q) = _
      rw [this, e]
theorem hears_nodup {q h j p : Nat} (hj : j < q) : ((h ^^^ 2 ^ j) :: onw q h j (p + 1) (q - (p + 1))).Nodup := by
  have hq : 0 < q := by omega
  have key : ∀ i, i < q → ∀ i', i' < q → h ^^^ 2 ^ ((j + i) % q) = h ^^^ 2 ^ ((j + i') % q) → i = i' := fun i hi i' hi' e => by
    have e1 := xor_pow_inj e
    have a1 := ar_at (q := q) (i := i) j hi
    have a2 := ar_at (q := q) (i := i') j hi'
    rw [e1, a2] at a1
    omega
  refine List.nodup_cons.mpr ⟨fun z => ?_, ?_⟩
  · unfold onw at z
    obtain ⟨i, hi, e⟩ := List.mem_map.mp z
    have hi := List.mem_range.mp hi
    have e2 : h ^^^ 2 ^ ((j + (p + 1 + i)) % q) = h ^^^ 2 ^ ((j + 0) % q) := by
      have e0 : (j + 0) % q = j := Nat.mod_eq_of_lt hj
      rw [e0]; exact e
    have := key (p + 1 + i) (by omega) 0 hq e2
    omega
  · unfold onw List.Nodup
    rw [List.pairwise_map]
    refine (List.pairwise_lt_range).imp_of_mem fun {a b} ha hb hab e => ?_
    have ha := List.mem_range.mp ha
    have hb := List.mem_range.mp hb
    have := key _ (by omega) _ (by omega) e
    omega
end Bf
namespace Bf
open PySem PySem.Spec PyProof.Rows L2 LamX NdefX
theorem wl_step {s : Nat} {ks : List Nat} {i k : Nat} (h : ks[i]? = some k) : wl s (ks.take (i + 1)) = wl s (ks.take i) ++ [wf s (ks.take i) ^^^ 2 ^ k] := by
  rw [List.take_add_one, h]
  exact wl_snoc s (ks.take i) k
theorem tabs_upd {T : List (Addr × Str)} {H : Hp} {D : Addr} {xs ys : List V} (t : Tabs T H) (h : H D = some (.lst xs)) : Tabs T (upd H D (.lst ys)) := fun y hy => by
  obtain ⟨ps, t1, t2, t3⟩ := t y hy
  refine ⟨ps, ?_, t2, fun pos cv hc => ?_⟩
  · rw [upd_ne (fun e => by rw [e, h] at t1; cases t1)]
    exact t1
  · obtain ⟨c, e1, e2⟩ := t3 pos cv hc
    refine ⟨c, e1, ?_⟩
    rw [upd_ne (fun e => by rw [e, h] at e2; unfold CodeO at e2; cases e2)]
    exact e2
theorem nv_last {l : List Nat} {z : Nat} : atI (nv (l ++ [z])) (-1) = some (.int (z : Int)) := by
  have e : nv (l ++ [z]) = nv l ++ [.int (z : Int)] := by
    unfold nv
    rw [List.map_append]
    rfl
  rw [e]
  exact atI_last _ _
theorem nv_get' {ks : List Nat} {i : Nat} {x : V} (hx : (nv ks)[i]? = some x) : ∃ n, ks[i]? = some n ∧ V.int (n : Int) = x := by
  unfold nv at hx
  rw [List.getElem?_map] at hx
  cases e : ks[i]? with
  | none => rw [e] at hx; cases hx
  | some z => rw [e] at hx; exact ⟨z, rfl, Option.some.inj hx⟩
/-! ### small things -/
theorem pot_ne {H : Hp} {p u : Addr} {m : Nat} (h : Pot H p m) (n : H u = none) : u ≠ p := fun e => by
  obtain ⟨x, y, z, hH, _⟩ := h
  rw [e, hH] at n
  cases n
/-! ### if t: x = e -/
theorem rd_ifSet {tt : TT} {te : TE} {i : Nat} {D : Ends} {σ : L2.St} {H : Hp} (b : Bool) (R : V → Hp → Prop) (h0 : ∀ Q' : Bool → Hp → Prop, Q' b H → tt σ H Q') (h1 : b = true → ∀ Q : VK, (∀ x H', R x H' → Q x H') → te σ H Q)
    (h2 : b = false → ∃ x, σ[i]? = some (some x) ∧ R x H) (h : ∀ x H', R x H' → D.nx (σ.set i (some x)) H') : tIfS tt (tAsg te (gName i)) tNext D σ H := by
  refine h0 _ ?_
  cases b with
  | true => exact iteT (h1 rfl _ fun x H' r => h x H' r)
  | false =>
    obtain ⟨x, hx, r⟩ := h2 rfl
    have e : σ.set i (some x) = σ := by
      refine List.ext_getElem? fun j => ?_
      rw [List.getElem?_set]
      split
      · rename_i ej
        subst ej
        rw [hx]
        split
        · rfl
        · rename_i hj
          exact absurd (List.getElem?_eq_some_iff.mp hx).1 hj
      · rfl
    have z := h x H r
    rw [e] at z
    exact iteF z
theorem wl_small {q s : Nat} {ks : List Nat} (hq : q ≤ 60) (hs : s < 2 ^ q) (hk : ∀ k ∈ ks, k < q) : ∀ n ∈ wl s ks, n < 2 ^ 61 := fun n hn => by
  unfold wl at hn
  obtain ⟨i, _, rfl⟩ := List.mem_map.mp hn
  have h1 : wf s (ks.take i) < 2 ^ q := wf_lt hs fun k hk2 => hk k (List.mem_of_mem_take hk2)
  exact Nat.lt_of_lt_of_le h1 (Nat.pow_le_pow_right (by decide) (by omega))
theorem atI_2 {α : Type} (xs : List α) (u v : α) : atI (xs ++ [u, v]) (-2) = some u := by
  have hl : (xs ++ [u, v]).length = xs.length + 2 := by simp
  have e : ixN (xs ++ [u, v]).length (-2) = some xs.length := by
    unfold ixN
    rw [hl, if_neg (by decide), if_pos (by omega)]
    congr 1
    omega
  unfold atI
  rw [e]
  show (xs ++ [u, v])[xs.length]? = some u
  rw [List.getElem?_append_right (Nat.le_refl _), Nat.sub_self]
  rfl
/-- the last hand but one -/
theorem wl_but0 {s h : Nat} {ks : List Nat} (hne : ks ≠ []) (e1 : wf s ks = h) : atI (nv (wl s ks)) (-2) = some (.int (h ^^^ 2 ^ (ks.getLast hne) : Nat)) := by
  have ek : ks = ks.dropLast ++ [ks.getLast hne] := (List.dropLast_concat_getLast hne).symm
  have e3 : wf s ks.dropLast ^^^ 2 ^ (ks.getLast hne) = h := by rw [← wf_snoc, ← ek]; exact e1
  have e4 : wf s ks.dropLast = h ^^^ 2 ^ (ks.getLast hne) := by rw [← e3, Nat.xor_assoc, Nat.xor_self, Nat.xor_zero]
  obtain ⟨l0, el⟩ := wl_last s ks.dropLast
  have e5 : wl s ks = l0 ++ [wf s ks.dropLast, wf s ks.dropLast ^^^ 2 ^ (ks.getLast hne)] := by
    have z : wl s ks = wl s (ks.dropLast ++ [ks.getLast hne]) := congrArg (wl s) ek
    rw [z, wl_snoc, el]
    simp
  have e6 : nv (wl s ks) = nv l0 ++ [.int (wf s ks.dropLast : Nat), .int (wf s ks.dropLast ^^^ 2 ^ (ks.getLast hne) : Nat)] := by
    rw [e5]
    unfold nv
    rw [List.map_append]
    rfl
  rw [e6, atI_2, e4]
theorem xor_back (s h : Nat) : s ^^^ (h ^^^ s) = h := by rw [Nat.xor_comm h s, ← Nat.xor_assoc, Nat.xor_self, Nat.zero_xor]
theorem wl_but {q h s j : Nat} (hj : j < q) (hh : h < 2 ^ q) (hs : s < 2 ^ q) : atI (nv (wl s (cl q (h ^^^ s) j))) (-2) = some (.int (h ^^^ 2 ^ ((cl q (h ^^^ s) j).getLast (cl_ne _ _ _)) : Nat)) :=
  wl_but0 (cl_ne _ _ _) (by rw [wf_cl hj (Nat.xor_lt_two_pow hh hs), xor_back])
/-! ### crossed of the law -/
/-- a loop over zip of two tuples, the second no longer -/
theorem for_zipS {K : PySem.W.Frag} {a b : Addr} {xs ys : List V} {g : TG} {tb : TS} {D : Ends} {σ : L2.St} {H : Hp} (hl : ys.length ≤ xs.length) (Pv : Nat → L2.St → Hp → Prop) (h0 : Pv 0 σ H) (hq : ∀ i σ H, Pv i σ H → SqT K H a xs ∧ SqT K H b ys)
    (hs : ∀ (i : Nat) (x y : V) (T : Addr) (σ : L2.St) (H : Hp), xs[i]? = some x → ys[i]? = some y → Pv i σ H → H T = none → g (.ref T) σ (upd H T (.tup [x, y])) fun σ2 H2 => tb { D with nx := Pv (i + 1), ct := Pv (i + 1), bk := D.nx } σ2 H2) (hd : ∀ σ H, Pv ys.length σ H → D.nx σ H) :
    ∃ W : Nat → Nat → L2.St → Hp → Prop, (∃ m, W 0 m σ H) ∧ ∀ i m σ H, W i m σ H →
      ((RZ.ItzT K a b).stop i H ∧ D.nx σ H) ∨ ((RZ.ItzT K a b).go i H ∧ ∃ N : L2.St → Hp → Prop, (∀ σ' H', N σ' H' → ∃ m', m' < m ∧ W (i + 1) m' σ' H') ∧ ∀ v H', (RZ.ItzT K a b).yld i H v H' → g v σ H' fun σ2 H2 => tb { D with nx := N, ct := N, bk := D.nx } σ2 H2) := by
  refine ⟨fun i m σ H => i + m = ys.length ∧ Pv i σ H, ⟨ys.length, Nat.zero_add _, h0⟩, fun i m σ H hW => ?_⟩
  obtain ⟨e, p⟩ := hW
  obtain ⟨qa, qb⟩ := hq i σ H p
  cases m with
  | zero =>
    have e2 : i = ys.length := e
    exact .inl ⟨⟨xs, ys, qa, qb, .inr (Nat.le_of_eq e2.symm)⟩, hd σ H (e2 ▸ p)⟩
  | succ m =>
    have l2 : i < ys.length := by omega
    have l1 : i < xs.length := by omega
    refine .inr ⟨⟨xs, ys, xs[i], ys[i], qa, qb, List.getElem?_eq_getElem l1, List.getElem?_eq_getElem l2⟩, Pv (i + 1), fun σ' H' p' => ⟨m, Nat.lt_succ_self m, by omega, p'⟩, fun v H' z => ?_⟩
    obtain ⟨T, x, y, rfl, nT, rfl, z1, z2⟩ := z
    exact hs i x y T σ H (z1 xs qa) (z2 ys qb) p nT
theorem one_of (kk : Nat) : ∀ n, (List.range n).filter (fun k => decide (kk = k)) = if kk < n then [kk] else []
  | 0 => rfl
  | n + 1 => by
    rw [List.range_succ, List.filter_append, one_of kk n]
    by_cases e : kk = n
    · subst e
      simp
    · by_cases l : kk < n
      · simp [e, l, Nat.lt_succ_of_lt l]
      · have : ¬ kk < n + 1 := by omega
        simp [e, l, this]
theorem pow_dec (a b : Nat) : decide (V.int ((2 ^ a : Nat) : Int) = V.int ((2 ^ b : Nat) : Int)) = decide (a = b) := by
  by_cases e : a = b
  · subst e
    simp
  · have h : ¬ V.int ((2 ^ a : Nat) : Int) = V.int ((2 ^ b : Nat) : Int) := fun z => e ((Nat.pow_right_inj (by decide)).mp (Int.ofNat.inj (V.int.inj z)))
    rw [decide_eq_false e, decide_eq_false h]
end Bf
namespace Bf
open PySem PySem.Spec PyProof.Rows L2
/-! ### once round -/
theorem sorted_head {α : Type} {key : α → Int} {k : α} : ∀ {l : List α}, l.Pairwise (fun a b => key a < key b) → k ∈ l → (∀ x ∈ l, key k ≤ key x) → l.head? = some k
  | [], _, h, _ => absurd h List.not_mem_nil
  | a :: l, hp, hm, hk => by
    obtain ⟨h1, _⟩ := List.pairwise_cons.mp hp
    rcases List.mem_cons.mp hm with rfl | hm
    · rfl
    · have := h1 k hm
      have := hk a List.mem_cons_self
      omega
theorem ar_rel {q st k x : Nat} (c : Int) : ((x : Int) - ((k : Int) + c)) % (q : Int) = (ar q st x - ar q st k - c) % (q : Int) := by
  unfold ar
  rw [Int.emod_def ((x : Int) - st) q, Int.emod_def ((k : Int) - st) q]
  generalize ((x : Int) - st) / q = u
  generalize ((k : Int) - st) / q = v
  have e : (x : Int) - st - q * u - ((k : Int) - st - q * v) - c = ((x : Int) - (k + c)) + q * (v - u) := by
    rw [Int.mul_sub]
    omega
  rw [e, Int.add_mul_emod_self_left]
theorem ar_next {q st k x : Nat} (hq : 0 < q) : ar q (k + 1) x = if ar q st k < ar q st x then ar q st x - ar q st k - 1 else ar q st x - ar q st k - 1 + q := by
  have h := ar_rel (q := q) (st := st) (k := k) (x := x) 1
  have e : ar q (k + 1) x = (ar q st x - ar q st k - 1) % (q : Int) := by
    rw [← h]
    unfold ar
    rw [Int.natCast_add]
    rfl
  have a0 := ar_nn (q := q) (j := st) (x := x) hq
  have a1 := ar_lt (q := q) (j := st) (x := x) hq
  have b0 := ar_nn (q := q) (j := st) (x := k) hq
  have b1 := ar_lt (q := q) (j := st) (x := k) hq
  rw [e]
  split
  · exact Int.emod_eq_of_lt (by omega) (by omega)
  · have : (ar q st x - ar q st k - 1) % (q : Int) = (ar q st x - ar q st k - 1 + q) % (q : Int) := by rw [Int.add_emod_right]
    rw [this]
    exact Int.emod_eq_of_lt (by omega) (by omega)
theorem ar_from {q st k x : Nat} (hq : 0 < q) : ar q k x = if ar q st k ≤ ar q st x then ar q st x - ar q st k else ar q st x - ar q st k + q := by
  have h := ar_rel (q := q) (st := st) (k := k) (x := x) 0
  have e : ar q k x = (ar q st x - ar q st k) % (q : Int) := by
    rw [Int.add_zero, Int.sub_zero] at h
    exact h
  have a0 := ar_nn (q := q) (j := st) (x := x) hq
  have a1 := ar_lt (q := q) (j := st) (x := x) hq
  have b0 := ar_nn (q := q) (j := st) (x := k) hq
  have b1 := ar_lt (q := q) (j := st) (x := k) hq
  rw [e]
  split
  · exact Int.emod_eq_of_lt (by omega) (by omega)
  · have : (ar q st x - ar q st k) % (q : Int) = (ar q st x - ar q st k + q) % (q : Int) := by rw [Int.add_emod_right]
    rw [this]
    exact Int.emod_eq_of_lt (by omega) (by omega)
/-- the next one in the round order -/
theorem next_in {q h st i b c : Nat} (hq : 0 < q) (h1 : (rb q h st)[i]? = some b) (h2 : (rb q h st)[i + 1]? = some c) : (rb q h (b + 1)).head? = some c := by
  have hs := rb_sorted q h st
  have l1 := (List.getElem?_eq_some_iff.mp h1)
  have l2 := (List.getElem?_eq_some_iff.mp h2)
  obtain ⟨g1, e1⟩ := l1
  obtain ⟨g2, e2⟩ := l2
  have hbc : ar q st b < ar q st c := by
    have := List.pairwise_iff_getElem.mp hs i (i + 1) g1 g2 (Nat.lt_succ_self i)
    rw [e1, e2] at this
    exact this
  have mc : c ∈ rb q h st := e2 ▸ List.getElem_mem g2
  refine sorted_head (rb_sorted q h (b + 1)) (mem_rb.mpr (mem_rb.mp mc)) fun x hx => ?_
  have mx : x ∈ rb q h st := mem_rb.mpr (mem_rb.mp hx)
  obtain ⟨m, hm, ex⟩ := List.getElem_of_mem mx
  rw [ar_next (st := st) hq, ar_next (st := st) hq, if_pos hbc]
  have x1 := ar_lt (q := q) (j := st) (x := c) hq
  have x0 := ar_nn (q := q) (j := st) (x := x) hq
  have b1 := ar_nn (q := q) (j := st) (x := b) hq
  split
  · rename_i hlt
    have hmi : i < m := by
      refine Nat.lt_of_not_le fun l => ?_
      rcases Nat.lt_or_eq_of_le l with l | l
      · have := List.pairwise_iff_getElem.mp hs m i hm g1 l
        rw [e1, ex] at this
        omega
      · subst l
        rw [e1] at ex
        subst ex
        omega
    rcases Nat.lt_or_eq_of_le (Nat.succ_le_of_lt hmi) with l | l
    · have := List.pairwise_iff_getElem.mp hs (i + 1) m g2 hm l
      rw [e2, ex] at this
      omega
    · have : c = x := by
        rw [← e2, ← ex]
        congr 1
      rw [this]
      omega
  · omega
theorem next_end {q h st b a : Nat} (hq : 0 < q) (h1 : (rb q h st).getLast? = some b) (h2 : (rb q h st).head? = some a) : (rb q h (b + 1)).head? = some a := by
  have hs := rb_sorted q h st
  obtain ⟨mb, hb⟩ := (sorted_last hs).mp h1
  have ma : a ∈ rb q h st := List.mem_of_head? h2
  have ha : ∀ x ∈ rb q h st, ar q st a ≤ ar q st x := by
    cases e : rb q h st with
    | nil => intro x hx; exact absurd hx List.not_mem_nil
    | cons z l =>
      rw [e] at h2 hs
      have : z = a := Option.some.inj h2
      subst this
      intro x hx
      rcases List.mem_cons.mp hx with rfl | hx
      · exact Int.le_refl _
      · exact Int.le_of_lt ((List.pairwise_cons.mp hs).1 x hx)
  refine sorted_head (rb_sorted q h (b + 1)) (mem_rb.mpr (mem_rb.mp ma)) fun x hx => ?_
  have mx : x ∈ rb q h st := mem_rb.mpr (mem_rb.mp hx)
  have c1 := hb x mx
  have c2 := hb a ma
  have c3 := ha x mx
  rw [ar_next (st := st) hq, ar_next (st := st) hq]
  rw [if_neg (by omega), if_neg (by omega)]
  omega
def stp (q h t : Nat) : Int := if ar q h t = 0 then (q : Int) else ar q h t
theorem steps_sum {q st : Nat} (hq : 0 < q) : ∀ (b : Nat) (l : List Nat), b < q → (∀ x ∈ l, x < q) → st < q → (b :: l).Pairwise (fun a b => ar q st a < ar q st b) → (List.zipWith (stp q) (b :: l) (l ++ [st])).sum = q - ar q st b
  | b, [], hb, _, hst, _ => by
    show stp q b st + 0 = _
    have e := ar_from (q := q) (st := st) (k := b) (x := st) hq
    rw [ar_self] at e
    have b0 := ar_nn (q := q) (j := st) (x := b) hq
    have b1 := ar_lt (q := q) (j := st) (x := b) hq
    unfold stp
    rw [e]
    split <;> split <;> omega
  | b, c :: l, hb, hl, hst, hp => by
    obtain ⟨h1, h2⟩ := List.pairwise_cons.mp hp
    have ih := steps_sum (st := st) hq c l (hl c List.mem_cons_self) (fun x hx => hl x (List.mem_cons_of_mem _ hx)) hst h2
    show stp q b c + (List.zipWith (stp q) (c :: l) (l ++ [st])).sum = _
    rw [ih]
    have hbc := h1 c List.mem_cons_self
    have e := ar_from (q := q) (st := st) (k := b) (x := c) hq
    rw [if_pos (by omega)] at e
    unfold stp
    rw [e, if_neg (by omega)]
    omega
theorem arcs_two {q a b : Nat} (hq : 0 < q) : ar q a b + ar q b a = 0 ∨ ar q a b + ar q b a = q := by
  have e := ar_from (q := q) (st := a) (k := b) (x := a) hq
  rw [ar_self] at e
  have b0 := ar_nn (q := q) (j := a) (x := b) hq
  have b1 := ar_lt (q := q) (j := a) (x := b) hq
  rw [e]
  split <;> omega
end Bf
namespace Bf
open PySem PySem.Spec PyProof.Rows L2
/-! ### each neighbour in one tree -/
theorem cl_last_in {q d j k : Nat} (hj : j < q) (b : d.testBit j = true) : (cl q d j).getLast? = some k ↔ (k < q ∧ d.testBit k = true) ∧ ∀ x, x < q → d.testBit x = true → ar q j x ≤ ar q j k := by
  rw [cl_in hj b, sorted_last (rb_sorted q d j), mem_rb]
  constructor
  · exact fun h => ⟨h.1, fun x h1 h2 => h.2 x (mem_rb.mpr ⟨h1, h2⟩)⟩
  · exact fun h => ⟨h.1, fun x hx => h.2 x (mem_rb.mp hx).1 (mem_rb.mp hx).2⟩
theorem cl_last_out {q d j : Nat} (hj : j < q) (b : d.testBit j = false) : (cl q d j).getLast? = some j := by
  rw [cl_out hj b, List.getLast?_append, List.getLast?_singleton]
  rfl
theorem tree_one {q d j1 j2 k : Nat} (h1 : j1 < q) (h2 : j2 < q) (e1 : (cl q d j1).getLast? = some k) (e2 : (cl q d j2).getLast? = some k) : j1 = j2 := by
  have hq : 0 < q := by omega
  cases b1 : d.testBit j1 with
  | false =>
    rw [cl_last_out h1 b1] at e1
    have k1 : j1 = k := Option.some.inj e1
    cases b2 : d.testBit j2 with
    | false =>
      rw [cl_last_out h2 b2] at e2
      have k2 : j2 = k := Option.some.inj e2
      omega
    | true =>
      have := ((cl_last_in h2 b2).mp e2).1.2
      rw [← k1, b1] at this
      cases this
  | true =>
    obtain ⟨⟨hk, bk⟩, m1⟩ := (cl_last_in h1 b1).mp e1
    cases b2 : d.testBit j2 with
    | false =>
      rw [cl_last_out h2 b2] at e2
      have k2 : j2 = k := Option.some.inj e2
      rw [← k2, b2] at bk
      cases bk
    | true =>
      obtain ⟨_, m2⟩ := (cl_last_in h2 b2).mp e2
      refine Classical.byContradiction fun hne => ?_
      have x1 := m1 j2 h2 b2
      have x2 := m2 j1 h1 b1
      have f1 := ar_from (q := q) (st := j1) (k := j2) (x := k) hq
      have f2 := ar_from (q := q) (st := j1) (k := j2) (x := j1) hq
      rw [ar_self] at f2
      have c0 := ar_nn (q := q) (j := j1) (x := j2) hq
      have a1 := ar_lt (q := q) (j := j1) (x := k) hq
      have c1 : ar q j1 j2 ≠ 0 := fun z => hne (ar_inj (q := q) (j := j1) h1 h2 (by rw [ar_self, z]))
      rw [if_pos x1] at f1
      rw [if_neg (by omega)] at f2
      omega
theorem tree_some {q d k : Nat} (hd : d < 2 ^ q) (hk : k < q) : ∃ j, j < q ∧ (cl q d j).getLast? = some k := by
  have hq : 0 < q := by omega
  cases b : d.testBit k with
  | false => exact ⟨k, hk, cl_last_out hk b⟩
  | true =>
    cases e : rb q d (k + 1) with
    | nil =>
      have : k ∈ rb q d (k + 1) := mem_rb.mpr ⟨hk, b⟩
      rw [e] at this
      exact absurd this List.not_mem_nil
    | cons j l =>
      have mj : j ∈ rb q d (k + 1) := by rw [e]; exact List.mem_cons_self
      obtain ⟨hj, bj⟩ := mem_rb.mp mj
      have hs := rb_sorted q d (k + 1)
      have least : ∀ x, x < q → d.testBit x = true → ar q (k + 1) j ≤ ar q (k + 1) x := fun x hx bx => by
        have mx : x ∈ rb q d (k + 1) := mem_rb.mpr ⟨hx, bx⟩
        rw [e] at mx hs
        rcases List.mem_cons.mp mx with rfl | mx
        · exact Int.le_refl _
        · exact Int.le_of_lt ((List.pairwise_cons.mp hs).1 x mx)
      refine ⟨j, hj, (cl_last_in hj bj).mpr ⟨⟨hk, b⟩, fun x hx bx => ?_⟩⟩
      have y1 := ar_from (q := q) (st := k + 1) (k := j) (x := x) hq
      have y2 := ar_from (q := q) (st := k + 1) (k := j) (x := k) hq
      rw [if_pos (least x hx bx)] at y1
      rw [if_pos (least k hk b)] at y2
      rw [y1, y2]
      have top : ar q (k + 1) k = q - 1 := by
        have := ar_next (q := q) (st := k) (k := k) (x := k) hq
        rw [if_neg (by omega), ar_self] at this
        omega
      have := ar_lt (q := q) (j := k + 1) (x := x) hq
      omega
end Bf
namespace Bf
open PySem PySem.Spec PyProof.Rows L2 LamX NdefX
/-! ### the tree whose turn it is -/
def trF (q d k : Nat) : Nat := if d.testBit k = true then ((rb q d (k + 1)).head?).getD 0 else k
def ltF (q d k : Nat) : Nat := if d.testBit k = true then (ar q (trF q d k) k).toNat else q
theorem trF_head {q d k : Nat} (hk : k < q) (b : d.testBit k = true) : (rb q d (k + 1)).head? = some (trF q d k) := by
  unfold trF
  rw [if_pos b]
  cases e : rb q d (k + 1) with
  | nil =>
    have : k ∈ rb q d (k + 1) := mem_rb.mpr ⟨hk, b⟩
    rw [e] at this
    exact absurd this List.not_mem_nil
  | cons j l => rfl
theorem trF_out {q d k : Nat} (b : d.testBit k = false) : trF q d k = k := by
  unfold trF
  rw [b]
  rfl
theorem trF_in {q d k : Nat} (hk : k < q) (b : d.testBit k = true) : trF q d k < q ∧ d.testBit (trF q d k) = true := by
  have e := trF_head hk b
  have : trF q d k ∈ rb q d (k + 1) := List.mem_of_mem_head? (by rw [e]; rfl)
  exact mem_rb.mp this
theorem trF_lt {q d k : Nat} (hk : k < q) : trF q d k < q := by
  cases b : d.testBit k with
  | false => rw [trF_out b]; exact hk
  | true => exact (trF_in hk b).1
theorem trF_bit {q d k : Nat} (hk : k < q) : d.testBit (trF q d k) = d.testBit k := by
  cases b : d.testBit k with
  | false => rw [trF_out b]; exact b
  | true => exact (trF_in hk b).2
theorem trF_last {q d k : Nat} (hk : k < q) : (cl q d (trF q d k)).getLast? = some k := by
  have hq : 0 < q := by omega
  cases b : d.testBit k with
  | false => rw [trF_out b]; exact cl_last_out hk b
  | true =>
    obtain ⟨hj, bj⟩ := trF_in hk b
    have eh := trF_head hk b
    generalize trF q d k = j at hj bj eh
    have hs := rb_sorted q d (k + 1)
    have least : ∀ x, x < q → d.testBit x = true → ar q (k + 1) j ≤ ar q (k + 1) x := fun x hx bx => by
      have mx : x ∈ rb q d (k + 1) := mem_rb.mpr ⟨hx, bx⟩
      cases e : rb q d (k + 1) with
      | nil => rw [e] at mx; exact absurd mx List.not_mem_nil
      | cons z l =>
        rw [e] at mx hs eh
        have ez : z = j := Option.some.inj eh
        subst ez
        rcases List.mem_cons.mp mx with rfl | mx
        · exact Int.le_refl _
        · exact Int.le_of_lt ((List.pairwise_cons.mp hs).1 x mx)
    refine (cl_last_in hj bj).mpr ⟨⟨hk, b⟩, fun x hx bx => ?_⟩
    have y1 := ar_from (q := q) (st := k + 1) (k := j) (x := x) hq
    have y2 := ar_from (q := q) (st := k + 1) (k := j) (x := k) hq
    rw [if_pos (least x hx bx)] at y1
    rw [if_pos (least k hk b)] at y2
    rw [y1, y2]
    have top : ar q (k + 1) k = q - 1 := by
      have := ar_next (q := q) (st := k) (k := k) (x := k) hq
      rw [if_neg (by omega), ar_self] at this
      omega
    have := ar_lt (q := q) (j := k + 1) (x := x) hq
    omega
theorem trF_iff {q d j k : Nat} (hj : j < q) (hk : k < q) : (cl q d j).getLast? = some k ↔ j = trF q d k :=
  ⟨fun e => tree_one hj (trF_lt hk) e (trF_last hk), fun e => by rw [e]; exact trF_last hk⟩
theorem ltF_in {q d k : Nat} (hq : 0 < q) (b : d.testBit k = true) : (ltF q d k : Int) = ar q (trF q d k) k := by
  unfold ltF
  rw [if_pos b]
  exact Int.toNat_of_nonneg (ar_nn hq)
theorem ltF_out {q d k : Nat} (b : d.testBit k = false) : ltF q d k = q := by
  unfold ltF
  rw [b]
  rfl
theorem ltF_le {q d k : Nat} (hq : 0 < q) : ltF q d k ≤ q := by
  cases b : d.testBit k with
  | false => rw [ltF_out b]; exact Nat.le_refl _
  | true =>
    have h1 := ltF_in hq b
    have h2 := ar_lt (q := q) (j := trF q d k) (x := k) hq
    omega
/-! ### a hand's bits, 0 or 1 each -/
def mk (q h : Nat) : List Nat := (List.range q).map fun k => (h.testBit k).toNat
theorem mk_len (q h : Nat) : (mk q h).length = q := by
  unfold mk
  rw [List.length_map, List.length_range]
theorem mk_get {q h k : Nat} (hk : k < q) : (mk q h)[k]? = some (h.testBit k).toNat := by
  unfold mk
  rw [List.getElem?_map, List.getElem?_range hk]
  rfl
theorem mk_succ (q h : Nat) : mk (q + 1) h = mk q h ++ [(h.testBit q).toNat] := by
  unfold mk
  rw [List.range_succ, List.map_append]
  rfl
theorem bit_nat (h k : Nat) : (h.testBit k).toNat = h / 2 ^ k % 2 := by
  rw [Nat.testBit_eq_decide_div_mod_eq]
  by_cases e : h / 2 ^ k % 2 = 1
  · rw [decide_eq_true e, e]; rfl
  · rw [decide_eq_false e]
    show 0 = _
    omega
theorem mk_of {L : List Nat} {q : Nat} (hl : L.length = q) (hb : ∀ x ∈ L, x < 2) : ∃ h, h < 2 ^ q ∧ L = mk q h := by
  refine ⟨fb ((List.range q).filter fun k => decide (L[k]? = some 1)), fb_lt fun k hk => List.mem_range.mp (List.mem_filter.mp hk).1, ?_⟩
  refine List.ext_getElem? fun i => ?_
  by_cases hi : i < q
  · rw [mk_get hi]
    have hi2 : i < L.length := by omega
    have hx := hb _ (List.getElem_mem hi2)
    rw [List.getElem?_eq_getElem hi2]
    congr 1
    unfold fb
    rw [fold_bit, Nat.zero_testBit, Bool.false_or]
    by_cases e : L[i] = 1
    · rw [decide_eq_true (List.mem_filter.mpr ⟨List.mem_range.mpr hi, decide_eq_true (by rw [List.getElem?_eq_getElem hi2, e])⟩), e]
      rfl
    · rw [decide_eq_false fun z => ?_]
      · show L[i] = 0
        omega
      · have z2 := of_decide_eq_true (List.mem_filter.mp z).2
        rw [List.getElem?_eq_getElem hi2] at z2
        exact e (Option.some.inj z2)
  · rw [List.getElem?_eq_none (by omega), List.getElem?_eq_none (by rw [mk_len]; omega)]
theorem mk_small {q h x : Nat} (hx : x ∈ mk q h) : x < 2 := by
  unfold mk at hx
  obtain ⟨k, _, rfl⟩ := List.mem_map.mp hx
  cases h.testBit k <;> decide
theorem xor_bit2 (a b k : Nat) : ((a.testBit k).toNat + (b.testBit k).toNat) % 2 = ((a ^^^ b).testBit k).toNat := by
  rw [Nat.testBit_xor]
  cases a.testBit k <;> cases b.testBit k <;> rfl
/-- one bit turned -/
theorem mk_cross {q h k : Nat} (hk : k < q) : (mk q h).take k ++ [1 - (h.testBit k).toNat] ++ (mk q h).drop (k + 1) = mk q (h ^^^ 2 ^ k) := by
  refine List.ext_getElem? fun i => ?_
  have l1 : ((mk q h).take k).length = k := by rw [List.length_take, mk_len]; omega
  by_cases hi : i < q
  · rw [mk_get hi, bit_xor]
    rcases Nat.lt_trichotomy i k with c | c | c
    · rw [List.append_assoc, List.getElem?_append_left (by omega), List.getElem?_take_of_lt c, mk_get hi]
      have : ¬ k = i := by omega
      simp [this]
    · subst c
      rw [List.append_assoc, List.getElem?_append_right (by omega), l1, Nat.sub_self]
      show some (1 - (h.testBit i).toNat) = _
      cases h.testBit i <;> simp
    · rw [List.getElem?_append_right (by rw [List.length_append, l1]; show k + 1 ≤ i; omega), List.length_append, l1, List.getElem?_drop]
      have e : k + 1 + (i - (k + [1 - (h.testBit k).toNat].length)) = i := by show k + 1 + (i - (k + 1)) = i; omega
      rw [e, mk_get hi]
      have : ¬ k = i := by omega
      simp [this]
  · have z : ((mk q h).take k ++ [1 - (h.testBit k).toNat] ++ (mk q h).drop (k + 1)).length ≤ i := by
      rw [List.length_append, List.length_append, l1, List.length_drop, mk_len]
      show k + 1 + (q - (k + 1)) ≤ i
      omega
    have z2 : (mk q (h ^^^ 2 ^ k)).length ≤ i := by
      rw [mk_len]
      omega
    rw [List.getElem?_eq_none z, List.getElem?_eq_none z2]
theorem half_step (h n : Nat) : h / 2 ^ n = 2 * (h / 2 ^ (n + 1)) + h / 2 ^ n % 2 := by
  rw [Nat.pow_succ, ← Nat.div_div_eq_div_mul]
  have := Nat.div_add_mod (h / 2 ^ n) 2
  omega
/-! ### rules -/
section
variable {X : Cx}
theorem call_reprA (gd : X.A.guards = some []) (hu : X.A.units + 64 < cLine) : CallR X (.builtin "repr") (fun xs H Q => (xs = [.non] ∧ Q (.str "None") H) ∨ ∃ a d, xs = [.ref a] ∧ Dp X.K H (.ref a) d ∧ d.showable = true ∧ d.hasDict = false ∧ d.depth < 60 ∧ d.shown.length ≤ sizeLine ∧ Q (.str d.shown) H) := by
  intro pins s σ H xs us Q I r h
  rcases h with ⟨rfl, q⟩ | h
  · obtain ⟨u, rfl, ru⟩ := vals1 r
    cases ru
    exact P.repr_of_none ⟨.str "None", H, I.tok _, ⟨_, rfl⟩, q⟩
  · exact call_reprD gd hu pins s σ H xs us Q I r h
theorem op_powW : OpR X (binaryOp .Pow) (rI (fun i j => 0 ≤ j ∧ (Builtin.Int.intBits i : Int) * j ≤ 2 ^ 27) fun i j => .int (i ^ j.toNat)) := opI fun _ _ _ _ _ _ _ hc q => pow_int hc.1 hc.2 q
end
end Bf
namespace Bf
open PySem PySem.Spec PyProof.Rows L2 LamX NdefX
/-! ### more rules -/
theorem yes {σ : L2.St} {H : Hp} {A B : Hp → Prop} (h : A H) : tYes σ H (fun b H3 => if b = true then A H3 else B H3) := by
  show if true = true then A H else B H
  exact (if_pos rfl).mpr h
theorem op_fdivNN {X : Cx} : OpR X (binaryOp .FloorDiv) (fun x y H Q => ∃ n m : Nat, x = .int (n : Int) ∧ y = .int (m : Int) ∧ 0 < m ∧ m < 1073741824 ∧ Q (.int ((n / m : Nat) : Int)) H) := by
  intro pins s σ H x y v u Q I rx ry h
  obtain ⟨n, m, rfl, rfl, hm, hm2, q⟩ := h
  refine op_fdiv pins s σ H _ _ v u Q I rx ry ⟨(n : Int), (m : Int), rfl, rfl, ⟨by omega, by omega⟩, ?_⟩
  rw [Int.natCast_ediv] at q
  exact q
theorem op_mulNN {X : Cx} : OpR X (binaryOp .Mult) (fun x y H Q => ∃ n m : Nat, x = .int (n : Int) ∧ y = .int (m : Int) ∧ n < 2 ^ 63 ∧ Q (.int ((n * m : Nat) : Int)) H) := by
  intro pins s σ H x y v u Q I rx ry h
  obtain ⟨n, m, rfl, rfl, hm, q⟩ := h
  refine op_mul pins s σ H _ _ v u Q I rx ry ⟨(n : Int), (m : Int), rfl, rfl, .inl ⟨by omega, by omega⟩, ?_⟩
  rw [Int.natCast_mul] at q
  exact q
/-! ### source=0 behind a star, by any names -/
theorem kbS3 {x1 x2 x3 : Str} {K : PySem.W.Frag} {x : Str} {st : Stmt} {f : Addr} {fd : FuncData} (F : FunS K x st f fd) (h : ∀ (kV doc pm : Value) (an : Option Addr) (cdv ct a b c d : Value), bindArgs (PySem.W.fnOf x x (defArgs st) (defBody st) (defScope st) .none kV doc pm an cdv ct) ⟨[a, b, c], [(("source" : Str), d)]⟩ = pure ([(x1, a), (x2, b), (x3, c), ("source", d)] : List (Str × Value))) :
    KBinds K fd [x1, x2, x3, "source"] ["source"] g3 g3 := by
  obtain ⟨oc, od, dV, kV, doc, pm, an, cdv, ct, osl, rfl, lk, hcd, hD, hK⟩ := F.ex
  rcases hD with ⟨_, rfl⟩ | ⟨z, _⟩
  · refine ⟨fun s us ws _ hl => ?_, fun r1 r2 => g3_rel r1 r2⟩
    obtain ⟨a, b, c, d, rfl, rfl⟩ := g3_len hl
    exact .of_eq (h kV doc pm an cdv ct a b c d)
  · exact absurd rfl z
def g4 {α : Type} (us ws : List α) : List α := match us, ws with
  | [a, b, c, d], [e] => [a, b, c, d, e]
  | _, _ => []
theorem g4_rel {vs zs : List V} {us ws : List Value} (r1 : Vals vs us) (r2 : Vals zs ws) : Vals (g4 vs zs) (g4 us ws) := by
  match r1, r2 with
  | .nil, _ => exact .nil
  | .cons _ .nil, _ => exact .nil
  | .cons _ (.cons _ .nil), _ => exact .nil
  | .cons _ (.cons _ (.cons _ .nil)), _ => exact .nil
  | .cons _ (.cons _ (.cons _ (.cons _ .nil))), .nil => exact .nil
  | .cons a (.cons b (.cons c (.cons d .nil))), .cons e .nil => exact .cons a (.cons b (.cons c (.cons d (.cons e .nil))))
  | .cons _ (.cons _ (.cons _ (.cons _ .nil))), .cons _ (.cons _ _) => exact .nil
  | .cons _ (.cons _ (.cons _ (.cons _ (.cons _ _)))), _ => exact .nil
theorem g4_len {us ws : List Value} (h : (g4 us ws).length = 5) : ∃ a b c d e, us = [a, b, c, d] ∧ ws = [e] := by
  match us, ws, h with
  | [a, b, c, d], [e], _ => exact ⟨a, b, c, d, e, rfl, rfl⟩
  | [], _, h => cases h
  | [_], _, h => cases h
  | [_, _], _, h => cases h
  | [_, _, _], _, h => cases h
  | [_, _, _, _], [], h => cases h
  | [_, _, _, _], _ :: _ :: _, h => cases h
  | _ :: _ :: _ :: _ :: _ :: _, _, h => cases h
theorem kbS4 {x1 x2 x3 x4 : Str} {K : PySem.W.Frag} {x : Str} {st : Stmt} {f : Addr} {fd : FuncData} (F : FunS K x st f fd) (h : ∀ (kV doc pm : Value) (an : Option Addr) (cdv ct a b c d e : Value), bindArgs (PySem.W.fnOf x x (defArgs st) (defBody st) (defScope st) .none kV doc pm an cdv ct) ⟨[a, b, c, d], [(("source" : Str), e)]⟩ = pure ([(x1, a), (x2, b), (x3, c), (x4, d), ("source", e)] : List (Str × Value))) :
    KBinds K fd [x1, x2, x3, x4, "source"] ["source"] g4 g4 := by
  obtain ⟨oc, od, dV, kV, doc, pm, an, cdv, ct, osl, rfl, lk, hcd, hD, hK⟩ := F.ex
  rcases hD with ⟨_, rfl⟩ | ⟨z, _⟩
  · refine ⟨fun s us ws _ hl => ?_, fun r1 r2 => g4_rel r1 r2⟩
    obtain ⟨a, b, c, d, e, rfl, rfl⟩ := g4_len hl
    exact .of_eq (h kV doc pm an cdv ct a b c d e)
  · exact absurd rfl z
end Bf
namespace Bf
open PySem PySem.Spec PyProof.Rows L2 LamX NdefX
/-! ### since when -/
def farF (q d j : Nat) : Nat := (ar q j (((rb q d j).getLast?).getD 0)).toNat
def dyF (q d j : Nat) : Nat := if d.testBit j = true then farF q d j else q
def snF (q m d i : Nat) : Nat := if i + 1 = m then i + farF q d (i % q) else i + dyF q d (i % q)
theorem far_spec {q d j : Nat} (hq : 0 < q) (hd : d < 2 ^ q) (h0 : d ≠ 0) : ∃ L, (rb q d j).getLast? = some L ∧ ar q j L = (farF q d j : Int) ∧ d.testBit L = true ∧ L < q ∧ ∀ x, d.testBit x = true → ar q j x ≤ (farF q d j : Int) := by
  have hne : rb q d j ≠ [] := fun e => by
    obtain ⟨i, hi⟩ := Nat.exists_testBit_of_ne_zero h0
    have : i ∈ rb q d j := mem_rb.mpr ⟨lt_of_bit hd hi, hi⟩
    rw [e] at this
    exact absurd this List.not_mem_nil
  have e1 := List.getLast?_eq_getLast hne
  have e2 : ar q j ((rb q d j).getLast hne) = (farF q d j : Int) := by
    unfold farF
    rw [e1]
    exact (Int.toNat_of_nonneg (ar_nn hq)).symm
  obtain ⟨m1, m2⟩ := (sorted_last (rb_sorted q d j)).mp e1
  refine ⟨_, e1, e2, (mem_rb.mp m1).2, (mem_rb.mp m1).1, fun x hx => ?_⟩
  rw [← e2]
  exact m2 x (mem_rb.mpr ⟨lt_of_bit hd hx, hx⟩)
theorem far_lt {q d j : Nat} (hq : 0 < q) : farF q d j < q := by
  have h1 := ar_lt (q := q) (j := j) (x := ((rb q d j).getLast?).getD 0) hq
  have h2 := ar_nn (q := q) (j := j) (x := ((rb q d j).getLast?).getD 0) hq
  unfold farF
  omega
theorem dy_le {q d j : Nat} (hq : 0 < q) : dyF q d j ≤ q := by
  unfold dyF
  split
  · exact Nat.le_of_lt (far_lt hq)
  · exact Nat.le_refl _
theorem sn_le {q m d i : Nat} (hq : 0 < q) : snF q m d i ≤ i + q := by
  unfold snF
  split
  · have := far_lt (q := q) (d := d) (j := i % q) hq
    omega
  · have := dy_le (q := q) (d := d) (j := i % q) hq
    omega
theorem far_uniq {q d j : Nat} {v : Int} (hq : 0 < q) (hd : d < 2 ^ q) (h0 : d ≠ 0) (h1 : ∃ x, d.testBit x = true ∧ v = ar q j x) (h2 : ∀ x, d.testBit x = true → ar q j x ≤ v) : v = (farF q d j : Int) := by
  obtain ⟨L, _, e2, b, _, top⟩ := far_spec (j := j) hq hd h0
  obtain ⟨x, bx, rfl⟩ := h1
  have := top x bx
  have := h2 L b
  omega
theorem ar_modl {q j x : Nat} : ar q (j % q) x = ar q j x := by
  unfold ar
  rw [Int.natCast_emod]
  rw [Int.sub_emod, Int.emod_emod_of_dvd _ (Int.dvd_refl _), ← Int.sub_emod]
theorem far_back {q i L : Nat} (hq : 0 < q) (hL : L < q) : (((i + q - 1 : Nat) : Int) - ar q L ((i + q - 1) % q)) = (i : Int) + ar q (i % q) L := by
  have h1 := ar_next (q := q) (st := L) (k := (i + q - 1) % q) (x := L) hq
  rw [ar_self] at h1
  have nn := ar_nn (q := q) (j := L) (x := (i + q - 1) % q) hq
  rw [if_neg (by omega)] at h1
  have e : ((i + q - 1) % q + 1) % q = i % q := by
    rw [Nat.mod_add_mod, show i + q - 1 + 1 = i + q by omega, Nat.add_mod_right]
  have h2 : ar q ((i + q - 1) % q + 1) L = ar q (i % q) L := by rw [← ar_modl, e]
  rw [← h2, h1]
  omega
theorem mk_set {q h k : Nat} (hk : k < q) : (mk q h).set k (1 - (h.testBit k).toNat) = mk q (h ^^^ 2 ^ k) := by
  rw [← mk_cross hk, List.set_eq_take_append_cons_drop, if_pos (by rw [mk_len]; exact hk), List.append_assoc]
  rfl
theorem nv_set (ks : List Nat) (k v : Nat) : (nv ks).set k (.int (v : Int)) = nv (ks.set k v) := by
  unfold nv
  rw [List.map_set]
theorem no_bits {q d : Nat} (hd : d < 2 ^ q) (h : ∀ k, k < q → d.testBit k = false) : d = 0 := by
  refine Nat.eq_of_testBit_eq fun i => ?_
  rw [Nat.zero_testBit]
  cases e : d.testBit i with
  | false => rfl
  | true =>
    have := h i (lt_of_bit hd e)
    rw [e] at this
    cases this
theorem in_mk {q d : Nat} (hd : d < 2 ^ q) : inV (.int 1) (nv (mk q d)) = decide (d ≠ 0) := by
  by_cases h0 : d = 0
  · subst h0
    have : inV (.int 1) (nv (mk q 0)) = false := by
      unfold inV nv mk
      rw [List.any_map, List.any_map, List.any_eq_false]
      intro x _
      show ¬ eqV (.int (((Nat.testBit 0 x).toNat : Nat) : Int)) (.int 1) = true
      rw [Nat.zero_testBit]
      decide
    rw [this]
    rfl
  · have : inV (.int 1) (nv (mk q d)) = true := by
      obtain ⟨i, hi⟩ := Nat.exists_testBit_of_ne_zero h0
      unfold inV nv mk
      rw [List.any_map, List.any_map, List.any_eq_true]
      refine ⟨i, List.mem_range.mpr (lt_of_bit hd hi), ?_⟩
      show eqV (.int (((Nat.testBit d i).toNat : Nat) : Int)) (.int 1) = true
      rw [hi]
      rfl
    rw [this]
    exact (decide_eq_true h0).symm
theorem flat_nv (ks : List Nat) : (nv ks).all flatV = true := by
  unfold nv
  rw [List.all_map, List.all_eq_true]
  intro x _
  rfl
end Bf
namespace Bf
open PySem PySem.Spec PyProof.Rows L2 LamX NdefX
/-! ### what is heard, and first heard -/
theorem ar_add {q i e : Nat} (he : e < q) : ar q (i % q) ((i + e) % q) = (e : Int) := by
  have h := ar_at (q := q) (i % q) he
  rw [Nat.mod_add_mod] at h
  exact h
theorem arc_to {q j k : Nat} (hj : j < q) (hk : k < q) : ((j : Int) + ar q j k) % (q : Int) = k := by
  obtain ⟨i, hi, rfl⟩ := at_of j hk
  rw [ar_at j hi]
  have : ((j : Int) + (i : Int)) % (q : Int) = ((((j + i) % q : Nat)) : Int) := by
    rw [Int.natCast_emod, Int.natCast_add]
  exact this
/-- the letter heard at a beat by a hand of this set -/
def duF (q m d t : Nat) : Option Nat := if t < ltF q d (t % q) then none else some (min (t - ltF q d (t % q)) (m - 1))
theorem tree_mod {q d t : Nat} (hq : 0 < q) (b : d.testBit (t % q) = true) (h : ¬ t < ltF q d (t % q)) : (t - ltF q d (t % q)) % q = trF q d (t % q) := by
  have hk : t % q < q := Nat.mod_lt _ hq
  have h1 := ltF_in hq b
  have hj := trF_lt (d := d) hk
  generalize trF q d (t % q) = j at *
  generalize hl : ltF q d (t % q) = l at *
  -- t ≡ j + l
  have h2 := arc_to hj hk
  rw [← h1] at h2
  have h3 : (j + l) % q = t % q := by
    have : (((j + l) % q : Nat) : Int) = ((t % q : Nat) : Int) := by rw [Int.natCast_emod, Int.natCast_add]; exact h2
    exact Int.ofNat.inj this
  obtain ⟨c, hc⟩ := Nat.exists_eq_add_of_le (Nat.le_of_not_lt h)
  subst hc
  rw [Nat.add_sub_cancel_left]
  refine turn_inj (by' := l) (Nat.mod_lt _ hq) hj ?_
  rw [Nat.mod_add_mod, h3, Nat.add_comm c l]
/-- the last bit crossed on a way of a tree of the set is the farthest -/
theorem far_last {q d k : Nat} (hq : 0 < q) (hd : d < 2 ^ q) (hk : k < q) (b : d.testBit k = true) : farF q d (trF q d k) = ltF q d k := by
  have hb := (trF_in hk b).2
  have hj := (trF_in hk b).1
  have h0 : d ≠ 0 := fun e => by rw [e, Nat.zero_testBit] at b; cases b
  have e1 := trF_last (d := d) hk
  rw [cl_in hj hb] at e1
  obtain ⟨L, e2, e3, _⟩ := far_spec (j := trF q d k) hq hd h0
  rw [e1] at e2
  have : k = L := Option.some.inj e2
  subst this
  have := ltF_in hq b
  omega
/-- what comes first comes by its own beat -/
theorem due_at {q m d i : Nat} (hq : 0 < q) (hd : d < 2 ^ q) (h0 : d ≠ 0) (hi : i < m) : duF q m d (snF q m d i) = some i := by
  have hj : i % q < q := Nat.mod_lt _ hq
  obtain ⟨L, e2, e3, bL, hL, top⟩ := far_spec (j := i % q) hq hd h0
  have fl := far_lt (q := q) (d := d) (j := i % q) hq
  have eL : (i + farF q d (i % q)) % q = L := by
    have h2 := arc_to hj hL
    rw [e3] at h2
    have : (((i % q + farF q d (i % q)) % q : Nat) : Int) = (L : Int) := by rw [Int.natCast_emod, Int.natCast_add]; exact h2
    have := Int.ofNat.inj this
    rw [Nat.mod_add_mod] at this
    exact this
  unfold snF
  by_cases hl : i + 1 = m
  · rw [if_pos hl]
    unfold duF
    rw [eL]
    have hle : ltF q d L ≤ farF q d (i % q) := by
      have h1 := ltF_in hq bL
      obtain ⟨hj', bj'⟩ := trF_in hL bL
      have h2 := ar_from (q := q) (st := i % q) (k := trF q d L) (x := L) hq
      have h3 := top _ bj'
      rw [← e3] at h3
      rw [if_pos h3] at h2
      have := ar_nn (q := q) (j := i % q) (x := trF q d L) hq
      omega
    rw [if_neg (by omega)]
    congr 1
    omega
  · rw [if_neg hl]
    unfold dyF
    cases b : d.testBit (i % q) with
    | true =>
      rw [if_pos rfl]
      unfold duF
      rw [eL]
      have e4 : i % q = trF q d L := (trF_iff hj hL).mp (by rw [cl_in hj b]; exact e2)
      have e5 : ltF q d L = farF q d (i % q) := by rw [e4]; exact (far_last hq hd hL bL).symm
      rw [e5, if_neg (by omega)]
      congr 1
      omega
    | false =>
      rw [if_neg (by decide)]
      unfold duF
      rw [Nat.add_mod_right, ltF_out b, if_neg (by omega)]
      congr 1
      omega
/-- all bits of the set are crossed by then -/
theorem bits_by {q d st k x : Nat} (hq : 0 < q) (hk : k < q) (b : d.testBit k = true) (hst : (ltF q d k : Int) ≤ ar q st k) (hx : x < q) (bx : d.testBit x = true) : ar q st x ≤ ar q st k := by
  refine Classical.byContradiction fun hc => ?_
  obtain ⟨hj, bj⟩ := trF_in hk b
  have h1 := ltF_in hq b
  have eh := trF_head hk b
  have least : ar q (k + 1) (trF q d k) ≤ ar q (k + 1) x := by
    have mx : x ∈ rb q d (k + 1) := mem_rb.mpr ⟨hx, bx⟩
    have hs := rb_sorted q d (k + 1)
    cases e : rb q d (k + 1) with
    | nil => rw [e] at mx; exact absurd mx List.not_mem_nil
    | cons z l =>
      rw [e] at mx hs eh
      have ez : z = trF q d k := Option.some.inj eh
      rw [← ez]
      rcases List.mem_cons.mp mx with rfl | mx
      · exact Int.le_refl _
      · exact Int.le_of_lt ((List.pairwise_cons.mp hs).1 x mx)
  have n1 := ar_next (q := q) (st := st) (k := k) (x := x) hq
  have n2 := ar_next (q := q) (st := st) (k := k) (x := trF q d k) hq
  have n3 := ar_from (q := q) (st := st) (k := trF q d k) (x := k) hq
  have a1 := ar_lt (q := q) (j := st) (x := x) hq
  have a2 := ar_nn (q := q) (j := st) (x := trF q d k) hq
  have a3 := ar_lt (q := q) (j := st) (x := trF q d k) hq
  rw [if_pos (by omega)] at n1
  by_cases c : ar q st (trF q d k) ≤ ar q st k
  · rw [if_neg (by omega)] at n2
    omega
  · rw [if_neg c] at n3
    omega
/-- what is heard was heard by then, and who tells it had it ahead -/
theorem heard_by {q m d t i : Nat} (hq : 0 < q) (hm : 0 < m) (hd : d < 2 ^ q) (h0 : d ≠ 0) (h : duF q m d t = some i) : i < m ∧ snF q m d i ≤ t ∧ (d ^^^ 2 ^ (t % q) = 0 ∨ snF q m (d ^^^ 2 ^ (t % q)) i < t) := by
  have hk : t % q < q := Nat.mod_lt _ hq
  unfold duF at h
  split at h
  · cases h
  rename_i hlt
  have ei := Option.some.inj h
  have hd' : d ^^^ 2 ^ (t % q) < 2 ^ q := Nat.xor_lt_two_pow hd (Nat.pow_lt_pow_right (by decide) hk)
  have far' : ∀ st e, (∀ x, (d ^^^ 2 ^ (t % q)).testBit x = true → ar q st x < e) → d ^^^ 2 ^ (t % q) ≠ 0 → (farF q (d ^^^ 2 ^ (t % q)) st : Int) < e := fun st e hx hne => by
    obtain ⟨L, _, e3, bL, _, _⟩ := far_spec (j := st) hq hd' hne
    rw [← e3]
    exact hx L bL
  by_cases hlast : t - ltF q d (t % q) < m - 1
  · have ei2 : i = t - ltF q d (t % q) := by omega
    refine ⟨by omega, ?_⟩
    unfold snF
    rw [if_neg (by omega), if_neg (by omega)]
    cases b : d.testBit (t % q) with
    | true =>
      have em : i % q = trF q d (t % q) := by rw [ei2]; exact tree_mod hq b hlt
      obtain ⟨hj, bj⟩ := trF_in hk b
      have fl := far_last hq hd hk b
      unfold dyF
      rw [em, if_pos bj, fl]
      refine ⟨by omega, ?_⟩
      by_cases z : d ^^^ 2 ^ (t % q) = 0
      · exact .inl z
      refine .inr ?_
      have l1 := ltF_in hq b
      have hlt2 := far' (trF q d (t % q)) (ltF q d (t % q)) (fun x hx => ?_) z
      · have bj' : (d ^^^ 2 ^ (t % q)).testBit (trF q d (t % q)) = true := by
          rw [bit_xor, bj]
          by_cases e : t % q = trF q d (t % q)
          · exfalso
            -- the only bit
            have e0 : ltF q d (t % q) = 0 := by
              rw [← e, ar_self] at l1
              omega
            rw [e0] at hlt2
            omega
          · rw [decide_eq_false e]
            rfl
        rw [if_pos bj']
        omega
      · rw [bit_xor] at hx
        have hne : t % q ≠ x := fun e => by
          subst e
          rw [b, decide_eq_true rfl] at hx
          cases hx
        rw [decide_eq_false hne, Bool.xor_false] at hx
        have hxq := lt_of_bit hd hx
        obtain ⟨L, _, e3, _, _, top⟩ := far_spec (j := trF q d (t % q)) hq hd h0
        have h1 := top x hx
        have h2 : ar q (trF q d (t % q)) x ≠ ar q (trF q d (t % q)) (t % q) := fun e => hne (ar_inj hxq hk e).symm
        omega
    | false =>
      have l1 := ltF_out (q := q) b
      rw [l1] at hlt ei2
      have em : i % q = t % q := by
        rw [ei2]
        obtain ⟨c, hc⟩ := Nat.exists_eq_add_of_le (Nat.le_of_not_lt hlt)
        rw [hc, Nat.add_sub_cancel_left, Nat.add_mod_left]
      unfold dyF
      rw [em, b, if_neg (by decide)]
      refine ⟨by omega, .inr ?_⟩
      have bj' : (d ^^^ 2 ^ (t % q)).testBit (t % q) = true := by
        rw [bit_xor, b, decide_eq_true rfl]
        rfl
      rw [if_pos bj']
      have := far_lt (q := q) (d := d ^^^ 2 ^ (t % q)) (j := t % q) hq
      omega
  · have ei2 : i = m - 1 := by omega
    refine ⟨by omega, ?_⟩
    unfold snF
    rw [if_pos (by omega), if_pos (by omega)]
    have f1 := far_lt (q := q) (d := d) (j := i % q) hq
    have f2 := far_lt (q := q) (d := d ^^^ 2 ^ (t % q)) (j := i % q) hq
    by_cases hbig : i + q ≤ t
    · exact ⟨by omega, .inr (by omega)⟩
    cases b : d.testBit (t % q) with
    | false =>
      have l1 := ltF_out (q := q) b
      omega
    | true =>
      obtain ⟨e, he⟩ := Nat.exists_eq_add_of_le (show i ≤ t by omega)
      have heq : e < q := by omega
      have ea : ar q (i % q) (t % q) = (e : Int) := by rw [he]; exact ar_add heq
      have all : ∀ x, d.testBit x = true → ar q (i % q) x ≤ (e : Int) := fun x bx => by
        rw [← ea]
        exact bits_by hq hk b (by rw [ea]; omega) (lt_of_bit hd bx) bx
      constructor
      · obtain ⟨L, _, e3, bL, _, _⟩ := far_spec (j := i % q) hq hd h0
        have := all L bL
        omega
      · by_cases z : d ^^^ 2 ^ (t % q) = 0
        · exact .inl z
        refine .inr ?_
        have := far' (i % q) e (fun x hx => ?_) z
        · omega
        · rw [bit_xor] at hx
          have hne : t % q ≠ x := fun e => by
            subst e
            rw [b, decide_eq_true rfl] at hx
            cases hx
          rw [decide_eq_false hne, Bool.xor_false] at hx
          have h1 := all x hx
          have h2 : ar q (i % q) x ≠ ar q (i % q) (t % q) := fun e => hne (ar_inj (lt_of_bit hd hx) hk e).symm
          omega
end Bf
namespace Bf
open PySem PySem.Spec PyProof.Rows L2 LamX NdefX
/-! ### None, truths and numbers as data -/
def sd : V → PyData
  | .non => .none
  | .bl b => .bool b
  | .int n => .int n
  | _ => .none
def SmV (v : V) : Prop := v = .non ∨ (∃ b, v = .bl b) ∨ ∃ n : Nat, n < 2 ^ 61 ∧ v = .int (n : Int)
theorem SmV.non : SmV .non := .inl rfl
theorem SmV.bl (b : Bool) : SmV (.bl b) := .inr (.inl ⟨b, rfl⟩)
theorem SmV.int {n : Nat} (h : n < 2 ^ 61) : SmV (.int (n : Int)) := .inr (.inr ⟨n, h, rfl⟩)
theorem SmV.dp {K : PySem.W.Frag} {H : Hp} {v : V} (h : SmV v) : Dp K H v (sd v) := by
  rcases h with rfl | ⟨b, rfl⟩ | ⟨n, _, rfl⟩
  · exact .non
  · exact .bl _
  · exact .int _
theorem sm_dp {K : PySem.W.Frag} {H : Hp} : ∀ vs : List V, (∀ v ∈ vs, SmV v) → DpAll K H vs (vs.map sd)
  | [], _ => .nil
  | v :: vs, h => .cons (h v List.mem_cons_self).dp (sm_dp vs fun x hx => h x (List.mem_cons_of_mem _ hx))
theorem sm_show : ∀ vs : List V, (∀ v ∈ vs, SmV v) → PyData.showableAll (vs.map sd) = true ∧ PyData.hasDictAll (vs.map sd) = false ∧ PyData.depthAll (vs.map sd) ≤ 1 ∧ PyData.leavesShortAll 64 (vs.map sd) = true ∧ PyData.weightAll (vs.map sd) ≤ 63 * vs.length
  | [], _ => ⟨rfl, rfl, by simp [PyData.depthAll], rfl, Nat.le_refl _⟩
  | v :: vs, h => by
    obtain ⟨i1, i2, i3, i4, i5⟩ := sm_show vs fun x hx => h x (List.mem_cons_of_mem _ hx)
    have hv : PyData.showable (sd v) = true ∧ PyData.hasDict (sd v) = false ∧ PyData.depth (sd v) ≤ 1 ∧ PyData.leavesShort 64 (sd v) = true ∧ PyData.weight (sd v) ≤ 62 := by
      rcases h v List.mem_cons_self with rfl | ⟨b, rfl⟩ | ⟨n, hn, rfl⟩
      · exact ⟨rfl, rfl, by decide, by decide, by decide⟩
      · cases b
        · exact ⟨rfl, rfl, by decide, by decide, by decide⟩
        · exact ⟨rfl, rfl, by decide, by decide, by decide⟩
      · have z1 := nd_show [n] (fun x hx => by rw [List.mem_singleton.mp hx]; exact hn)
        have z4 := nd_leaves [n] (fun x hx => by rw [List.mem_singleton.mp hx]; exact hn)
        have z5 := nd_weight [n] (fun x hx => by rw [List.mem_singleton.mp hx]; exact hn)
        have w1 : (PyData.showable (.int (n : Int)) && true) = true := z1
        have w4 : (PyData.leavesShort 64 (.int (n : Int)) && true) = true := z4
        have w5 : PyData.weight (.int (n : Int)) + 1 + 0 ≤ 63 * 1 := z5
        rw [Bool.and_true] at w1 w4
        exact ⟨w1, rfl, by show PyData.depth (.int (n : Int)) ≤ 1; simp [PyData.depth], w4, by show PyData.weight (.int (n : Int)) ≤ 62; omega⟩
    obtain ⟨h1, h2, h3, h4, h5⟩ := hv
    refine ⟨?_, ?_, ?_, ?_, ?_⟩
    · show (PyData.showable (sd v) && PyData.showableAll (vs.map sd)) = true
      rw [h1, i1]; rfl
    · show (PyData.hasDict (sd v) || PyData.hasDictAll (vs.map sd)) = false
      rw [h2, i2]; rfl
    · show max (PyData.depth (sd v)) (PyData.depthAll (vs.map sd)) ≤ 1
      omega
    · show (PyData.leavesShort 64 (sd v) && PyData.leavesShortAll 64 (vs.map sd)) = true
      rw [h4, i4]; rfl
    · show PyData.weight (sd v) + 1 + PyData.weightAll (vs.map sd) ≤ 63 * (vs.length + 1)
      omega
theorem sm_rep {vs : List V} (h : ∀ v ∈ vs, SmV v) (hl : vs.length ≤ 1000) : (PyData.list (vs.map sd)).showable = true ∧ (PyData.list (vs.map sd)).hasDict = false ∧ (PyData.list (vs.map sd)).depth < 60 ∧ (PyData.list (vs.map sd)).shown.length ≤ sizeLine := by
  obtain ⟨i1, i2, i3, i4, i5⟩ := sm_show vs h
  refine ⟨i1, i2, ?_, ?_⟩
  · show PyData.depthAll (vs.map sd) + 1 < 60
    omega
  · have h1 := PyData.shown_le 64 (by decide) (.list (vs.map sd)) i4
    have h2 : PyData.weight (.list (vs.map sd)) ≤ 63 * vs.length := i5
    rw [sizeLine_eq]
    have h3 : (64 + 2) * PyData.weight (.list (vs.map sd)) ≤ 66 * (63 * 1000) := Nat.mul_le_mul (by decide) (by omega)
    omega
/-- repr of None or a number -/
theorem call_reprO {X : Cx} : CallR X (.builtin "repr") (fun xs H Q => (xs = [.non] ∧ Q (.str "None") H) ∨ ∃ i : Int, xs = [.int i] ∧ i.natAbs.log2 < 1920 ∧ Q (.str (toString i)) H) := by
  intro pins s σ H xs us Q I r h
  rcases h with ⟨rfl, q⟩ | h
  · obtain ⟨u, rfl, ru⟩ := vals1 r
    cases ru
    exact P.repr_of_none ⟨.str "None", H, I.tok _, ⟨_, rfl⟩, q⟩
  · exact call_reprN pins s σ H xs us Q I r h
theorem rd_ifV {tt : TT} {ta tb : TE} {σ : L2.St} {H : Hp} {Q : VK} (b : Bool) (v : V) (h0 : ∀ Q' : Bool → Hp → Prop, Q' b H → tt σ H Q') (h1 : b = true → Gives ta σ H v) (h2 : b = false → Gives tb σ H v) (h : Q v H) : tIf tt ta tb σ H Q := by
  refine h0 _ ?_
  cases b with
  | true => exact iteT (h1 rfl _ h)
  | false => exact iteF (h2 rfl _ h)
theorem rd_ifF {tt : TT} {A B : TS} {D : Ends} {σ : L2.St} {H : Hp} (h0 : ∀ Q' : Bool → Hp → Prop, Q' false H → tt σ H Q') (h : B D σ H) : tIfS tt A B D σ H := h0 _ (iteF h)
/-! ### the last beat -/
def lbF (q m d : Nat) : Nat := if m = 1 then snF q m d 0 else m - 2 + q
theorem lb_top {q m d i : Nat} (hq : 0 < q) (hi : i < m) : snF q m d i ≤ lbF q m d := by
  unfold lbF
  by_cases e : m = 1
  · rw [if_pos e]
    have : i = 0 := by omega
    subst this
    exact Nat.le_refl _
  · rw [if_neg e]
    unfold snF
    have h1 := far_lt (q := q) (d := d) (j := i % q) hq
    have h2 := dy_le (q := q) (d := d) (j := i % q) hq
    split <;> omega
theorem lb_is {q m d : Nat} (hq : 0 < q) (hm : 0 < m) (hd : d < 2 ^ q) (h0 : d ≠ 0) : ∃ i, i < m ∧ snF q m d i = lbF q m d := by
  unfold lbF
  by_cases e : m = 1
  · rw [if_pos e]
    exact ⟨0, by omega, rfl⟩
  · rw [if_neg e]
    cases b : d.testBit ((m - 2) % q) with
    | false =>
      refine ⟨m - 2, by omega, ?_⟩
      unfold snF dyF
      rw [if_neg (by omega), b]
      rfl
    | true =>
      refine ⟨m - 1, by omega, ?_⟩
      unfold snF
      rw [if_pos (by omega)]
      obtain ⟨L, _, e3, _, _, top⟩ := far_spec (j := (m - 1) % q) hq hd h0
      have h1 := top _ b
      have h2 := far_lt (q := q) (d := d) (j := (m - 1) % q) hq
      have e4 : ar q ((m - 1) % q) ((m - 2) % q) = (q : Int) - 1 := by
        have h3 := ar_add (q := q) (i := m - 1) (e := q - 1) (by omega)
        have e5 : (m - 1 + (q - 1)) % q = (m - 2) % q := by
          rw [show m - 1 + (q - 1) = m - 2 + q by omega, Nat.add_mod_right]
        rw [e5] at h3
        omega
      omega
theorem lb_one {q d : Nat} (hq : 0 < q) (hd : d < 2 ^ q) (h0 : d ≠ 0) : lbF q 1 d ≤ q - 1 ∧ (d.testBit (q - 1) = true → lbF q 1 d = q - 1) := by
  unfold lbF snF
  rw [if_pos rfl, if_pos rfl, Nat.zero_mod, Nat.zero_add]
  have h2 := far_lt (q := q) (d := d) (j := 0) hq
  refine ⟨by omega, fun b => ?_⟩
  obtain ⟨L, _, e3, _, _, top⟩ := far_spec (j := 0) hq hd h0
  have h1 := top _ b
  have h3 := ar_at (q := q) 0 (i := q - 1) (by omega)
  rw [Nat.zero_add, Nat.mod_eq_of_lt (by omega)] at h3
  omega
end Bf
namespace Bf
open PySem PySem.Spec PyProof.Rows L2 LamX NdefX
/-! ### each letter once -/
theorem heard_once {q m d t i : Nat} (hq : 0 < q) (hm : 0 < m) (hd : d < 2 ^ q) (h0 : d ≠ 0) (hi : i + 1 < m) (h : duF q m d t = some i) : snF q m d i = t := by
  have hk : t % q < q := Nat.mod_lt _ hq
  unfold duF at h
  split at h
  · cases h
  rename_i hlt
  have ei := Option.some.inj h
  have ei2 : i = t - ltF q d (t % q) := by omega
  unfold snF
  rw [if_neg (by omega)]
  cases b : d.testBit (t % q) with
  | true =>
    have em : i % q = trF q d (t % q) := by rw [ei2]; exact tree_mod hq b hlt
    obtain ⟨hj, bj⟩ := trF_in hk b
    have fl := far_last hq hd hk b
    unfold dyF
    rw [em, if_pos bj, fl]
    omega
  | false =>
    have l1 := ltF_out (q := q) b
    rw [l1] at hlt ei2
    have em : i % q = t % q := by
      rw [ei2]
      obtain ⟨c, hc⟩ := Nat.exists_eq_add_of_le (Nat.le_of_not_lt hlt)
      rw [hc, Nat.add_sub_cancel_left, Nat.add_mod_left]
    unfold dyF
    rw [em, b, if_neg (by decide)]
    omega
/-- the beats of a stretch at which a letter is heard -/
def onL (q m d i lo n : Nat) : List Nat := ((List.range n).map fun r => lo + r).filter fun t => decide (duF q m d t = some i)
theorem onL_succ (q m d i lo n : Nat) : onL q m d i lo (n + 1) = onL q m d i lo n ++ (if duF q m d (lo + n) = some i then [lo + n] else []) := by
  unfold onL
  rw [List.range_succ, List.map_append, List.filter_append]
  by_cases e : duF q m d (lo + n) = some i <;> simp [e]
theorem onL_len (q m d i lo n : Nat) : (onL q m d i lo n).length ≤ n := by
  unfold onL
  have := List.length_filter_le (fun t => decide (duF q m d t = some i)) ((List.range n).map fun r => lo + r)
  rw [List.length_map, List.length_range] at this
  exact this
theorem onL_mem {q m d i lo n t : Nat} : t ∈ onL q m d i lo n ↔ (lo ≤ t ∧ t < lo + n) ∧ duF q m d t = some i := by
  unfold onL
  rw [List.mem_filter, List.mem_map]
  constructor
  · rintro ⟨⟨r, hr, rfl⟩, hp⟩
    have := List.mem_range.mp hr
    exact ⟨⟨by omega, by omega⟩, of_decide_eq_true hp⟩
  · rintro ⟨⟨h1, h2⟩, hp⟩
    exact ⟨⟨t - lo, List.mem_range.mpr (by omega), by omega⟩, decide_eq_true hp⟩
theorem onL_sorted (q m d i lo n : Nat) : (onL q m d i lo n).Pairwise (fun (a b : Nat) => (a : Int) < (b : Int)) := by
  unfold onL
  refine List.Pairwise.filter _ ?_
  rw [List.pairwise_map]
  exact List.pairwise_lt_range.imp fun {a b} h => by omega
theorem on_one {q m d i : Nat} (hq : 0 < q) (hd : d < 2 ^ q) (h0 : d ≠ 0) (hi : i + 1 < m) : onL q m d i (i - 2) (i + q + 2 - (i - 2)) = [snF q m d i] := by
  refine uniq_sorted (key := fun n : Nat => (n : Int)) (onL_sorted ..) (List.pairwise_singleton _ _) fun x => ?_
  rw [onL_mem, List.mem_singleton]
  constructor
  · exact fun h => (heard_once hq (by omega) hd h0 hi h.2).symm
  · rintro rfl
    have h1 := due_at (m := m) hq hd h0 (show i < m by omega)
    have h2 := sn_le (q := q) (m := m) (d := d) (i := i) hq
    have h3 : i ≤ snF q m d i := by
      unfold snF
      split <;> omega
    exact ⟨⟨by omega, by omega⟩, h1⟩
theorem due_late {q m d t : Nat} (hq : 0 < q) (hm : 0 < m) (ht : m - 1 + q ≤ t) : duF q m d t = some (m - 1) := by
  unfold duF
  have := ltF_le (q := q) (d := d) (k := t % q) hq
  rw [if_neg (by omega)]
  congr 1
  omega
theorem on_last {q m d i : Nat} (hq : 0 < q) (hd : d < 2 ^ q) (h0 : d ≠ 0) (hi : i + 1 = m) : ∃ l, onL q m d i (i - 2) (i + q + 2 - (i - 2)) = snF q m d i :: l := by
  have h1 := due_at (m := m) hq hd h0 (show i < m by omega)
  have h2 := sn_le (q := q) (m := m) (d := d) (i := i) hq
  have h3 : i ≤ snF q m d i := by
    unfold snF
    split <;> omega
  have hmem : snF q m d i ∈ onL q m d i (i - 2) (i + q + 2 - (i - 2)) := onL_mem.mpr ⟨⟨by omega, by omega⟩, h1⟩
  have hs := onL_sorted q m d i (i - 2) (i + q + 2 - (i - 2))
  cases e : onL q m d i (i - 2) (i + q + 2 - (i - 2)) with
  | nil => rw [e] at hmem; exact absurd hmem List.not_mem_nil
  | cons a l =>
    have ha : a ∈ onL q m d i (i - 2) (i + q + 2 - (i - 2)) := by rw [e]; exact List.mem_cons_self
    have hle := (heard_by hq (by omega) hd h0 (onL_mem.mp ha).2).2.1
    rw [e] at hmem hs
    rcases List.mem_cons.mp hmem with e1 | e1
    · exact ⟨l, by rw [e1]⟩
    · have := (List.pairwise_cons.mp hs).1 _ e1
      omega
theorem on_late {q m d i : Nat} (hq : 0 < q) (hi : i + 1 = m) : (onL q m d i (i - 2) (i + q + 2 - (i - 2))).filter (fun t => decide (i + q ≤ t)) = [i + q, i + q + 1] := by
  refine uniq_sorted (key := fun n : Nat => (n : Int)) (List.Pairwise.filter _ (onL_sorted ..)) (by simp) fun x => ?_
  rw [List.mem_filter, onL_mem]
  have em : m - 1 = i := by omega
  constructor
  · rintro ⟨⟨⟨h1, h2⟩, _⟩, h3⟩
    have := of_decide_eq_true h3
    have : x = i + q ∨ x = i + q + 1 := by omega
    rcases this with rfl | rfl <;> simp
  · intro h
    have : x = i + q ∨ x = i + q + 1 := by simpa using h
    have hd2 := due_late (q := q) (m := m) (d := d) (t := x) hq (by omega) (by omega)
    rw [em] at hd2
    exact ⟨⟨⟨by omega, by omega⟩, hd2⟩, decide_eq_true (by omega)⟩
end Bf
namespace Bf
open PySem PySem.Spec PyProof.Rows L2
/-! ### ways grow -/
theorem tp_bit {q d j n : Nat} (hj : j < q) (hn : n < q) : tp q (d ^^^ 2 ^ j) j n = tp q d j n := by
  unfold tp
  refine List.filter_congr fun x hx => ?_
  obtain ⟨i, hi, rfl⟩ := List.mem_map.mp hx
  have hi := List.mem_range.mp hi
  have ea := ar_at (q := q) (i := 1 + i) j (by omega)
  have hne : ¬ j = (j + (1 + i)) % q := fun z => by
    rw [← z, ar_self] at ea
    omega
  rw [bit_xor, decide_eq_false hne, Bool.xor_false]
theorem grow {q d j k : Nat} (hj : j < q) (hk : k < q) (hd : d < 2 ^ q) (hr : Hr q d j k) : (d = 0 → k = j ∧ cl q (d ^^^ 2 ^ k) j = [k]) ∧ (d ≠ 0 → cl q (d ^^^ 2 ^ k) j = cl q d j ++ [k]) := by
  have hq : 0 < q := by omega
  rcases (hr_iff hj hk hd).mp hr with ⟨rfl, h⟩ | ⟨b, hne, hlt⟩
  · constructor
    · intro e
      subst e
      refine ⟨rfl, ?_⟩
      have b1 : (0 ^^^ 2 ^ k).testBit k = true := by rw [bit_xor, Nat.zero_testBit, decide_eq_true rfl]; rfl
      have e1 : tp q (0 ^^^ 2 ^ k) k (q - 1) = tp q 0 k (q - 1) := tp_bit hj (by omega)
      have e2 : tp q 0 k (q - 1) = [] := by
        unfold tp
        simp
      unfold cl
      rw [b1, e1, e2]
      rfl
    · intro e
      have b : d.testBit k = true := h.resolve_left e
      have b1 : (d ^^^ 2 ^ k).testBit k = false := by rw [bit_xor, b, decide_eq_true rfl]; rfl
      have e1 : tp q (d ^^^ 2 ^ k) k (q - 1) = tp q d k (q - 1) := tp_bit hj (by omega)
      unfold cl
      rw [b1, b, e1]
      simp
  · have e0 : d ≠ 0 := fun z => by
      rw [z, Nat.zero_testBit] at b
      cases b
    refine ⟨fun z => absurd z e0, fun _ => ?_⟩
    have hkj : ¬ k = j := hne
    have b1 : (d ^^^ 2 ^ k).testBit j = true := by rw [bit_xor, b, decide_eq_false hkj]; rfl
    have bk : d.testBit k = false := by
      cases z : d.testBit k with
      | false => rfl
      | true => exact absurd (hlt k z) (Int.lt_irrefl _)
    rw [cl_in hj b1, cl_in hj b]
    refine uniq_sorted (key := fun x => ar q j x) (rb_sorted q _ j) ?_ fun x => ?_
    · refine List.pairwise_append.mpr ⟨rb_sorted q d j, List.pairwise_singleton _ _, fun x hx y hy => ?_⟩
      rw [List.mem_singleton.mp hy]
      exact hlt x (mem_rb.mp hx).2
    · rw [List.mem_append, List.mem_singleton, mem_rb, mem_rb, bit_xor]
      by_cases e : k = x
      · subst e
        rw [bk, decide_eq_true rfl]
        simp [hk]
      · rw [decide_eq_false e, Bool.xor_false]
        simp [Ne.symm (show k ≠ x from e)]
/-- back by the last crossing -/
theorem back {q d j : Nat} (hj : j < q) (hd : d < 2 ^ q) : ∃ k, k < q ∧ (cl q d j).getLast? = some k ∧ Hr q (d ^^^ 2 ^ k) j k ∧ d ^^^ 2 ^ k < 2 ^ q ∧ d = (d ^^^ 2 ^ k) ^^^ 2 ^ k := by
  have hne := cl_ne q d j
  have e2 : ∀ k, (d ^^^ 2 ^ k) ^^^ 2 ^ k = d := fun k => by rw [Nat.xor_assoc, Nat.xor_self, Nat.xor_zero]
  have hk : (cl q d j).getLast hne < q := cl_lt hj (List.getLast_mem hne)
  refine ⟨_, hk, List.getLast?_eq_getLast hne, ?_, Nat.xor_lt_two_pow hd (Nat.pow_lt_pow_right (by decide) hk), (e2 _).symm⟩
  unfold Hr
  rw [e2]
  exact List.getLast?_eq_getLast hne
/-- the part up to each hand on a way is that hand's own way -/
theorem part {q j : Nat} (hj : j < q) : ∀ (n : Nat) (d : Nat), d < 2 ^ q → (cl q d j).length = n → ∀ i, 1 ≤ i → i ≤ n → wf 0 ((cl q d j).take i) < 2 ^ q ∧ cl q (wf 0 ((cl q d j).take i)) j = (cl q d j).take i
  | 0, d, hd, hl, i, h1, h2 => absurd h1 (by omega)
  | n + 1, d, hd, hl, i, h1, h2 => by
    by_cases e : i = n + 1
    · rw [e, ← hl, List.take_length, wf_cl hj hd, Nat.zero_xor]
      exact ⟨hd, rfl⟩
    · obtain ⟨k, hk, _, hr, hd', ed⟩ := back hj hd
      obtain ⟨g1, g2⟩ := grow hj hk hd' hr
      rw [← ed] at g1 g2
      by_cases z : d ^^^ 2 ^ k = 0
      · obtain ⟨_, g⟩ := g1 z
        rw [g] at hl
        have : n = 0 := by
          have : (1 : Nat) = n + 1 := hl
          omega
        omega
      · have g := g2 z
        have hl2 : (cl q (d ^^^ 2 ^ k) j).length = n := by
          rw [g, List.length_append] at hl
          exact Nat.succ.inj hl
        have ih := part hj n (d ^^^ 2 ^ k) hd' hl2 i h1 (by omega)
        have et : (cl q d j).take i = (cl q (d ^^^ 2 ^ k) j).take i := by
          rw [g, List.take_append_of_le_length (by omega)]
        rw [et]
        exact ih
theorem wl_map (s : Nat) (ks : List Nat) (c : Nat) : (wl s ks).drop c = ((List.range (ks.length + 1)).drop c).map fun i => wf s (ks.take i) := by
  unfold wl
  rw [List.map_drop]
theorem wf_part {q d j s i : Nat} (hj : j < q) (hd : d < 2 ^ q) (h1 : 1 ≤ i) (h2 : i ≤ (cl q d j).length) : cl q (wf s ((cl q d j).take i) ^^^ s) j = (cl q d j).take i := by
  have := (part hj _ d hd rfl i h1 h2).2
  rw [wf_xor, Nat.xor_comm s, Nat.xor_assoc, Nat.xor_self, Nat.xor_zero]
  exact this
/-- a hand on two ways is come to by one part -/
theorem meet {q j s d1 d2 i i' : Nat} (hj : j < q) (h1 : d1 < 2 ^ q) (h2 : d2 < 2 ^ q) (hi : i ≤ (cl q d1 j).length) (hi' : i' ≤ (cl q d2 j).length) (e : wf s ((cl q d1 j).take i) = wf s ((cl q d2 j).take i')) (hs : wf s ((cl q d1 j).take i) ≠ s) :
    i = i' ∧ (cl q d1 j).take i = (cl q d2 j).take i' := by
  have p1 : 1 ≤ i := by
    rcases Nat.eq_zero_or_pos i with z | z
    · rw [z] at hs
      exact absurd rfl hs
    · exact z
  have p2 : 1 ≤ i' := by
    rcases Nat.eq_zero_or_pos i' with z | z
    · rw [e, z] at hs
      exact absurd rfl hs
    · exact z
  have t1 := wf_part (s := s) hj h1 p1 hi
  have t2 := wf_part (s := s) hj h2 p2 hi'
  rw [e] at t1
  have t : (cl q d1 j).take i = (cl q d2 j).take i' := t1.symm.trans t2
  have l := congrArg List.length t
  rw [List.length_take, List.length_take] at l
  exact ⟨by omega, t⟩
theorem ends_one {q j s d c : Nat} (hj : j < q) (hd : d < 2 ^ q) : (((wl s (cl q d j)).drop c).filter fun x => !decide (x = s)).Nodup := by
  rw [wl_map, List.filter_map]
  unfold List.Nodup
  rw [List.pairwise_map]
  have hp : (((List.range ((cl q d j).length + 1)).drop c).filter ((fun x => !decide (x = s)) ∘ fun i => wf s ((cl q d j).take i))).Pairwise (· < ·) := List.Pairwise.filter _ (List.Pairwise.drop List.pairwise_lt_range)
  refine hp.imp_of_mem fun {a b} ha hb hab e => ?_
  obtain ⟨ha1, ha2⟩ := List.mem_filter.mp ha
  obtain ⟨hb1, _⟩ := List.mem_filter.mp hb
  have ha1 := List.mem_range.mp (List.mem_of_mem_drop ha1)
  have hb1 := List.mem_range.mp (List.mem_of_mem_drop hb1)
  have hne : wf s ((cl q d j).take a) ≠ s := by simpa using ha2
  have := (meet hj hd hd (by omega) (by omega) e hne).1
  omega
theorem ends_two {q j s d1 d2 c : Nat} (hj : j < q) (h1 : d1 < 2 ^ q) (h2 : d2 < 2 ^ q) (hm : ¬ (c < (cl q d1 j).length + 1 ∧ c < (cl q d2 j).length + 1 ∧ wf s ((cl q d1 j).take c) = wf s ((cl q d2 j).take c))) :
    (((wl s (cl q d1 j)).drop c ++ (wl s (cl q d2 j)).drop c).filter fun x => !decide (x = s)).Nodup := by
  rw [List.filter_append]
  refine List.nodup_append.mpr ⟨ends_one hj h1, ends_one hj h2, fun x hx y hy e => ?_⟩
  subst e
  obtain ⟨hx1, hx2⟩ := List.mem_filter.mp hx
  obtain ⟨hy1, _⟩ := List.mem_filter.mp hy
  have hne : x ≠ s := by simpa using hx2
  rw [wl_map] at hx1 hy1
  obtain ⟨i, hi, ei⟩ := List.mem_map.mp hx1
  obtain ⟨i', hi', ei'⟩ := List.mem_map.mp hy1
  have hir := List.mem_range.mp (List.mem_of_mem_drop hi)
  have hir' := List.mem_range.mp (List.mem_of_mem_drop hi')
  have hci : c ≤ i := by
    obtain ⟨m, hm1, e⟩ := List.mem_drop_iff_getElem.mp hi
    rw [List.getElem_range] at e
    omega
  obtain ⟨e1, e2⟩ := meet hj h1 h2 (by omega) (by omega) (ei.trans ei'.symm) (by rw [ei]; exact hne)
  refine hm ⟨by omega, by omega, ?_⟩
  have t : (cl q d1 j).take c = (cl q d2 j).take c := by
    have := congrArg (List.take c) e2
    rw [List.take_take, List.take_take, Nat.min_eq_left hci, Nat.min_eq_left (by omega)] at this
    exact this
  rw [t]
theorem wl_take {s : Nat} {ks : List Nat} {i : Nat} (h : i ≤ ks.length) : (wl s ks).take (i + 1) = wl s (ks.take i) := by
  unfold wl
  rw [← List.map_take, List.take_range, List.length_take, Nat.min_eq_left h, Nat.min_eq_left (by omega)]
  refine List.map_congr_left fun m hm => ?_
  have := List.mem_range.mp hm
  rw [List.take_take, Nat.min_eq_left (by omega)]
theorem wl_init {s : Nat} {ks : List Nat} (h : ks ≠ []) : (wl s ks).dropLast = wl s ks.dropLast := by
  have hl : 1 ≤ ks.length := List.length_pos_iff.mpr h
  rw [List.dropLast_eq_take, wl_len, List.dropLast_eq_take]
  have e : ks.length + 1 - 1 = (ks.length - 1) + 1 := by omega
  rw [e, wl_take (by omega)]
end Bf
namespace Bf
open PySem PySem.Spec PyProof.Rows L2
/-! ### all hands by hearers (for k11) -/
def tl (q j s x : Nat) : Nat := x ^^^ 2 ^ ((cl q (x ^^^ s) j).getLast (cl_ne _ _ _))
theorem hears_tl {q j s h x : Nat} (hj : j < q) (hh : h < 2 ^ q) : (∃ k, k < q ∧ x = h ^^^ 2 ^ k ∧ Hr q (h ^^^ s) j k) ↔ x < 2 ^ q ∧ tl q j s x = h := by
  constructor
  · rintro ⟨k, hk, rfl, hr⟩
    refine ⟨Nat.xor_lt_two_pow hh (Nat.pow_lt_pow_right (by decide) hk), ?_⟩
    have e1 : h ^^^ 2 ^ k ^^^ s = h ^^^ s ^^^ 2 ^ k := by rw [Nat.xor_assoc, Nat.xor_comm (2 ^ k) s, ← Nat.xor_assoc]
    have e2 : (cl q (h ^^^ 2 ^ k ^^^ s) j).getLast (cl_ne _ _ _) = k := by
      have h1 : (cl q (h ^^^ 2 ^ k ^^^ s) j).getLast? = some k := by rw [e1]; exact hr
      rw [List.getLast?_eq_getLast (cl_ne _ _ _)] at h1
      exact Option.some.inj h1
    unfold tl
    rw [e2, Nat.xor_assoc, Nat.xor_self, Nat.xor_zero]
  · rintro ⟨hx, rfl⟩
    have hk : (cl q (x ^^^ s) j).getLast (cl_ne _ _ _) < q := cl_lt hj (List.getLast_mem _)
    generalize hk0 : (cl q (x ^^^ s) j).getLast (cl_ne _ _ _) = k at hk
    have et : tl q j s x = x ^^^ 2 ^ k := by
      unfold tl
      rw [hk0]
    refine ⟨k, hk, by rw [et, Nat.xor_assoc, Nat.xor_self, Nat.xor_zero], ?_⟩
    unfold Hr
    have e1 : tl q j s x ^^^ s ^^^ 2 ^ k = x ^^^ s := by
      rw [et, Nat.xor_assoc x, Nat.xor_comm (2 ^ k) s, ← Nat.xor_assoc x, Nat.xor_assoc (x ^^^ s), Nat.xor_self, Nat.xor_zero]
    rw [e1, List.getLast?_eq_getLast (cl_ne _ _ _), hk0]
theorem reach {q j s : Nat} (hj : j < q) (hs : s < 2 ^ q) {P : Nat → Prop} (h0 : P s) (hP : ∀ h x, P h → x < 2 ^ q → tl q j s x = h → x ≠ s → P x) : ∀ (n x : Nat), x < 2 ^ q → (cl q (x ^^^ s) j).length ≤ n → x ≠ s → P x
  | 0, x, hx, hl, _ => absurd (List.length_pos_iff.mpr (cl_ne q (x ^^^ s) j)) (by omega)
  | n + 1, x, hx, hl, hne => by
    have hd : x ^^^ s < 2 ^ q := Nat.xor_lt_two_pow hx hs
    obtain ⟨k, hk, hlast, hr, hd', ed⟩ := back hj hd
    have et : tl q j s x = x ^^^ 2 ^ k := by
      rw [List.getLast?_eq_getLast (cl_ne _ _ _)] at hlast
      unfold tl
      rw [Option.some.inj hlast]
    have e1 : x ^^^ 2 ^ k ^^^ s = x ^^^ s ^^^ 2 ^ k := by rw [Nat.xor_assoc, Nat.xor_comm (2 ^ k) s, ← Nat.xor_assoc]
    refine hP (tl q j s x) x ?_ hx rfl hne
    rw [et]
    by_cases z : x ^^^ 2 ^ k = s
    · rw [z]
      exact h0
    · have z2 : x ^^^ s ^^^ 2 ^ k ≠ 0 := fun y => z (by
        rw [← e1] at y
        have := congrArg (· ^^^ s) y
        simpa [Nat.xor_assoc] using this)
      have g := (grow hj hk hd' hr).2 z2
      rw [← ed] at g
      refine reach hj hs h0 hP n (x ^^^ 2 ^ k) (Nat.xor_lt_two_pow hx (Nat.pow_lt_pow_right (by decide) hk)) ?_ z
      rw [e1]
      rw [g, List.length_append] at hl
      have : (cl q (x ^^^ s ^^^ 2 ^ k) j).length + 1 ≤ n + 1 := hl
      omega
theorem tl_root {q j s : Nat} (hj : j < q) : tl q j s s = s ^^^ 2 ^ j := by
  unfold tl
  have e : (cl q (s ^^^ s) j).getLast? = some j := by
    rw [Nat.xor_self]
    exact cl_last_out hj (Nat.zero_testBit j)
  rw [List.getLast?_eq_getLast (cl_ne _ _ _)] at e
  rw [Option.some.inj e]
end Bf
namespace Bf
open PySem PySem.Spec PyProof.Rows L2
/-! ### delays counted (for k11) -/
def dlF (q d j : Nat) : Nat := if d.testBit j = true then (((List.range q).filter fun i => d.testBit ((j + i) % q)).getLast?).getD 0 else q
theorem dlF_is {q d j r : Nat} (h1 : d.testBit j = true → ∃ l, (rb q d j).getLast? = some l ∧ ar q j l = (r : Int)) (h2 : d.testBit j = false → r = q) : r = dlF q d j := by
  unfold dlF
  cases b : d.testBit j with
  | false =>
    rw [if_neg (by decide)]
    exact h2 b
  | true =>
    rw [if_pos rfl]
    obtain ⟨l, hl, el⟩ := h1 b
    have e : rb q d j = ((List.range q).filter fun i => d.testBit ((j + i) % q)).map fun i => (j + i) % q := by
      unfold rb
      rw [List.filter_map]
      rfl
    rw [e, List.getLast?_map] at hl
    cases z : ((List.range q).filter fun i => d.testBit ((j + i) % q)).getLast? with
    | none => rw [z] at hl; cases hl
    | some i =>
      rw [z] at hl
      have e2 : (j + i) % q = l := Option.some.inj hl
      have hi : i < q := List.mem_range.mp (List.mem_filter.mp (List.mem_of_getLast? z)).1
      rw [← e2, ar_at j hi] at el
      show r = i
      omega
def due (q t : Nat) : Nat := if t = 0 then 1 else if t < q then 2 ^ (t - 1) else 2 ^ (q - 1)
theorem counts : ∀ q, q < 6 → ∀ j, j < q → ∀ t, t ≤ q → ((List.range (2 ^ q)).map fun d => dlF q d j).count t = due q t := by decide +kernel
theorem xor_perm {q s : Nat} (hs : s < 2 ^ q) : ((List.range (2 ^ q)).map (· ^^^ s)).Perm (List.range (2 ^ q)) := by
  refine (List.perm_ext_iff_of_nodup ?_ List.nodup_range).mpr fun x => ?_
  · unfold List.Nodup
    rw [List.pairwise_map]
    exact (List.pairwise_lt_range).imp fun {a b} hab e => by
      have := congrArg (· ^^^ s) e
      have e2 : a = b := by simpa [Nat.xor_assoc] using this
      omega
  · rw [List.mem_map, List.mem_range]
    constructor
    · rintro ⟨y, hy, rfl⟩
      exact Nat.xor_lt_two_pow (List.mem_range.mp hy) hs
    · exact fun hx => ⟨x ^^^ s, List.mem_range.mpr (Nat.xor_lt_two_pow hx hs), by rw [Nat.xor_assoc, Nat.xor_self, Nat.xor_zero]⟩
theorem counts_at {q j s t : Nat} (hq : q < 6) (hj : j < q) (hs : s < 2 ^ q) (ht : t ≤ q) : ((List.range (2 ^ q)).map fun h => dlF q (h ^^^ s) j).count t = due q t := by
  have p := (xor_perm hs).map fun d => dlF q d j
  rw [List.map_map] at p
  rw [← counts q hq j hj t ht]
  exact p.count_eq t
end Bf
namespace Bf
open PySem PySem.Spec PyProof.Rows L2 LamX NdefX
/-! ### how many hands have a letter -/
def ctN (q j l : Nat) : Nat := ((List.range (2 ^ q)).filter fun d => decide (d = 0 ∨ dyF q d j < l)).length
def ctL (q j l : Nat) : Nat := ((List.range (2 ^ q)).filter fun d => decide (d = 0 ∨ farF q d j < l)).length
theorem ctN_is : ∀ q, q < 7 → ∀ j, j < q → ∀ l, l < q + 2 → ctN q j l = (if l = 0 then 1 else if l ≤ q then 2 ^ (l - 1) + 1 else 2 ^ q) := by decide +kernel
theorem ctL_is : ∀ q, q < 7 → ∀ j, j < q → ∀ l, l < q + 1 → ctL q j l = 2 ^ l := by decide +kernel
end Bf
namespace Bf
open PySem PySem.Spec PyProof.Rows L2 LamX NdefX
def g5 {α : Type} (us ws : List α) : List α := match us, ws with
  | [a, b, c, d, e], [f] => [a, b, c, d, e, f]
  | _, _ => []
theorem g5_rel {vs zs : List V} {us ws : List Value} (r1 : Vals vs us) (r2 : Vals zs ws) : Vals (g5 vs zs) (g5 us ws) := by
  match r1, r2 with
  | .nil, _ => exact .nil
  | .cons _ .nil, _ => exact .nil
  | .cons _ (.cons _ .nil), _ => exact .nil
  | .cons _ (.cons _ (.cons _ .nil)), _ => exact .nil
  | .cons _ (.cons _ (.cons _ (.cons _ .nil))), _ => exact .nil
  | .cons _ (.cons _ (.cons _ (.cons _ (.cons _ .nil)))), .nil => exact .nil
  | .cons a (.cons b (.cons c (.cons d (.cons e .nil)))), .cons f .nil => exact .cons a (.cons b (.cons c (.cons d (.cons e (.cons f .nil)))))
  | .cons _ (.cons _ (.cons _ (.cons _ (.cons _ .nil)))), .cons _ (.cons _ _) => exact .nil
  | .cons _ (.cons _ (.cons _ (.cons _ (.cons _ (.cons _ _))))), _ => exact .nil
theorem g5_len {us ws : List Value} (h : (g5 us ws).length = 6) : ∃ a b c d e f, us = [a, b, c, d, e] ∧ ws = [f] := by
  match us, ws, h with
  | [a, b, c, d, e], [f], _ => exact ⟨a, b, c, d, e, f, rfl, rfl⟩
  | [], _, h => cases h
  | [_], _, h => cases h
  | [_, _], _, h => cases h
  | [_, _, _], _, h => cases h
  | [_, _, _, _], _, h => cases h
  | [_, _, _, _, _], [], h => cases h
  | [_, _, _, _, _], _ :: _ :: _, h => cases h
  | _ :: _ :: _ :: _ :: _ :: _ :: _, _, h => cases h
theorem kbS5 {x1 x2 x3 x4 x5 : Str} {K : PySem.W.Frag} {x : Str} {st : Stmt} {f : Addr} {fd : FuncData} (F : FunS K x st f fd) (h : ∀ (kV doc pm : Value) (an : Option Addr) (cdv ct a b c d e g : Value), bindArgs (PySem.W.fnOf x x (defArgs st) (defBody st) (defScope st) .none kV doc pm an cdv ct) ⟨[a, b, c, d, e], [(("source" : Str), g)]⟩ = pure ([(x1, a), (x2, b), (x3, c), (x4, d), (x5, e), ("source", g)] : List (Str × Value))) :
    KBinds K fd [x1, x2, x3, x4, x5, "source"] ["source"] g5 g5 := by
  obtain ⟨oc, od, dV, kV, doc, pm, an, cdv, ct, osl, rfl, lk, hcd, hD, hK⟩ := F.ex
  rcases hD with ⟨_, rfl⟩ | ⟨z, _⟩
  · refine ⟨fun s us ws _ hl => ?_, fun r1 r2 => g5_rel r1 r2⟩
    obtain ⟨a, b, c, d, e, g, rfl, rfl⟩ := g5_len hl
    exact .of_eq (h kV doc pm an cdv ct a b c d e g)
  · exact absurd rfl z
theorem in_nv {L : List Nat} {s : Nat} (h : s ∈ L) : inV (.int (s : Int)) (nv L) = true := by
  unfold inV nv
  rw [List.any_map, List.any_eq_true]
  refine ⟨s, h, ?_⟩
  show ((s : Int) == (s : Int)) = true
  exact beq_self_eq_true _
end Bf
namespace Bf
open PySem PySem.Spec PyProof.Rows L2 LamX NdefX
/-! ### the first beat from one on that crosses a bit of the set -/
def cfF (q d t : Nat) : Nat := t + (ar q (t % q) (((rb q d (t % q)).head?).getD 0)).toNat
theorem cf_spec {q d t : Nat} (hq : 0 < q) (hd : d < 2 ^ q) (h0 : d ≠ 0) : ∃ B, (rb q d (t % q)).head? = some B ∧ (cfF q d t : Int) = t + ar q (t % q) B ∧ B < q ∧ d.testBit B = true ∧ cfF q d t % q = B ∧ t ≤ cfF q d t ∧ cfF q d t < t + q ∧ ∀ u, t ≤ u → d.testBit (u % q) = true → cfF q d t ≤ u := by
  have hne : rb q d (t % q) ≠ [] := fun e => by
    obtain ⟨i, hi⟩ := Nat.exists_testBit_of_ne_zero h0
    have : i ∈ rb q d (t % q) := mem_rb.mpr ⟨lt_of_bit hd hi, hi⟩
    rw [e] at this
    exact absurd this List.not_mem_nil
  obtain ⟨B, l, el⟩ : ∃ B l, rb q d (t % q) = B :: l := by
    cases e : rb q d (t % q) with
    | nil => exact absurd e hne
    | cons B l => exact ⟨B, l, rfl⟩
  have hm : B ∈ rb q d (t % q) := by rw [el]; exact List.mem_cons_self
  obtain ⟨hB, bB⟩ := mem_rb.mp hm
  have a0 := ar_nn (q := q) (j := t % q) (x := B) hq
  have a1 := ar_lt (q := q) (j := t % q) (x := B) hq
  have hk : t % q < q := Nat.mod_lt _ hq
  have ec : cfF q d t = t + (ar q (t % q) B).toNat := by
    unfold cfF
    rw [el]
    rfl
  have em : cfF q d t % q = B := by
    have h2 := arc_to hk hB
    rw [← Int.toNat_of_nonneg a0] at h2
    have h3 : (((t % q + (ar q (t % q) B).toNat) % q : Nat) : Int) = (B : Int) := by rw [Int.natCast_emod, Int.natCast_add]; exact h2
    have := Int.ofNat.inj h3
    rw [Nat.mod_add_mod] at this
    rw [ec]
    exact this
  refine ⟨B, by rw [el]; rfl, by omega, hB, bB, em, by omega, by omega, fun u hu bu => ?_⟩
  obtain ⟨e, rfl⟩ := Nat.exists_eq_add_of_le hu
  by_cases he : e < q
  · have h1 : ar q (t % q) ((t + e) % q) = (e : Int) := ar_add he
    have hx : (t + e) % q ∈ rb q d (t % q) := mem_rb.mpr ⟨Nat.mod_lt _ hq, bu⟩
    have hs := rb_sorted q d (t % q)
    rw [el] at hx hs
    rcases List.mem_cons.mp hx with e1 | e1
    · rw [e1] at h1
      omega
    · have := (List.pairwise_cons.mp hs).1 _ e1
      omega
  · omega
/-- which letters are had -/
theorem has_in {q m d i t : Nat} (hq : 0 < q) (hd : d < 2 ^ q) (h0 : d ≠ 0) (hi : i + 1 < m) : snF q m d i < t ↔ i + q < t ∨ i + q = cfF q d t := by
  obtain ⟨B, _, _, hB, bB, em, c1, c2, c3⟩ := cf_spec (t := t) hq hd h0
  have hj : i % q < q := Nat.mod_lt _ hq
  unfold snF
  rw [if_neg (by omega)]
  unfold dyF
  cases b : d.testBit (i % q) with
  | false =>
    rw [if_neg (by decide)]
    constructor
    · exact fun h => .inl h
    · rintro (h | h)
      · exact h
      · exfalso
        rw [← h, Nat.add_mod_right] at em
        rw [em, bB] at b
        cases b
  | true =>
    rw [if_pos rfl]
    obtain ⟨L, _, e3, bL, hL, top⟩ := far_spec (j := i % q) hq hd h0
    have fl := far_lt (q := q) (d := d) (j := i % q) hq
    have eL : (i + farF q d (i % q)) % q = L := by
      have h2 := arc_to hj hL
      rw [e3] at h2
      have : (((i % q + farF q d (i % q)) % q : Nat) : Int) = (L : Int) := by rw [Int.natCast_emod, Int.natCast_add]; exact h2
      have := Int.ofNat.inj this
      rw [Nat.mod_add_mod] at this
      exact this
    constructor
    · intro h
      by_cases hc : i + q < t
      · exact .inl hc
      · refine .inr ?_
        have h1 := c3 (i + q) (by omega) (by rw [Nat.add_mod_right]; exact b)
        refine Classical.byContradiction fun hne => ?_
        obtain ⟨e, he⟩ := Nat.exists_eq_add_of_le (show i ≤ cfF q d t by omega)
        have h2 : ar q (i % q) ((i + e) % q) = (e : Int) := ar_add (by omega)
        rw [← he, em] at h2
        have := top B bB
        omega
    · rintro (h | h)
      · omega
      · refine Classical.byContradiction fun hc => ?_
        have := c3 (i + farF q d (i % q)) (by omega) (by rw [eL]; exact bL)
        omega
theorem has_last {q m d i t : Nat} (hq : 0 < q) (hd : d < 2 ^ q) (h0 : d ≠ 0) (hi : i + 1 = m) : snF q m d i < t ↔ i + q ≤ cfF q d t := by
  obtain ⟨B, _, _, hB, bB, em, c1, c2, c3⟩ := cf_spec (t := t) hq hd h0
  have hj : i % q < q := Nat.mod_lt _ hq
  unfold snF
  rw [if_pos hi]
  obtain ⟨L, _, e3, bL, hL, top⟩ := far_spec (j := i % q) hq hd h0
  have fl := far_lt (q := q) (d := d) (j := i % q) hq
  have eL : (i + farF q d (i % q)) % q = L := by
    have h2 := arc_to hj hL
    rw [e3] at h2
    have : (((i % q + farF q d (i % q)) % q : Nat) : Int) = (L : Int) := by rw [Int.natCast_emod, Int.natCast_add]; exact h2
    have := Int.ofNat.inj this
    rw [Nat.mod_add_mod] at this
    exact this
  constructor
  · intro h
    refine Classical.byContradiction fun hne => ?_
    obtain ⟨e, he⟩ := Nat.exists_eq_add_of_le (show i ≤ cfF q d t by omega)
    have h2 : ar q (i % q) ((i + e) % q) = (e : Int) := ar_add (by omega)
    rw [← he, em] at h2
    have := top B bB
    omega
  · intro h
    refine Classical.byContradiction fun hc => ?_
    have := c3 (i + farF q d (i % q)) (by omega) (by rw [eL]; exact bL)
    omega
def hdF (q m t : Nat) : Nat := min (t - q) (m - 1)
def myF (q m d t : Nat) : Nat := hdF q m t + (if q ≤ cfF q d t then 1 else 0)
/-- the least letter that lacks -/
def flF (q m d t : Nat) : Nat := hdF q m t + (if q ≤ cfF q d t ∧ min (cfF q d t - q) (m - 1) = hdF q m t then 1 else 0)
theorem has_iff {q m d i t : Nat} (hq : 0 < q) (hd : d < 2 ^ q) (h0 : d ≠ 0) (hi : i < m) : snF q m d i < t ↔ i < hdF q m t ∨ (q ≤ cfF q d t ∧ i = min (cfF q d t - q) (m - 1)) := by
  obtain ⟨B, _, _, hB, bB, em, c1, c2, c3⟩ := cf_spec (t := t) hq hd h0
  unfold hdF
  by_cases e : i + 1 = m
  · rw [has_last hq hd h0 e]
    omega
  · rw [has_in hq hd h0 (by omega)]
    omega
theorem my_count {q m d t : Nat} (hq : 0 < q) (hm : 0 < m) (hd : d < 2 ^ q) (h0 : d ≠ 0) : ((List.range m).filter fun i => decide (snF q m d i < t)).length = myF q m d t := by
  obtain ⟨B, _, _, hB, bB, em, c1, c2, c3⟩ := cf_spec (t := t) hq hd h0
  have hE : (List.range m).filter (fun i => decide (snF q m d i < t)) = List.range (hdF q m t) ++ (if q ≤ cfF q d t then [min (cfF q d t - q) (m - 1)] else []) := by
    refine uniq_sorted (key := fun n : Nat => (n : Int)) (List.Pairwise.filter _ (List.pairwise_lt_range.imp fun {a b} h => by omega)) ?_ fun x => ?_
    · refine List.pairwise_append.mpr ⟨List.pairwise_lt_range.imp fun {a b} h => by omega, ?_, fun a ha b hb => ?_⟩
      · split
        · exact List.pairwise_singleton _ _
        · exact List.Pairwise.nil
      · split at hb
        · have := List.mem_range.mp ha
          rw [List.mem_singleton.mp hb]
          unfold hdF at this
          omega
        · exact absurd hb List.not_mem_nil
    · rw [List.mem_filter, List.mem_range, List.mem_append, List.mem_range]
      have hhd : hdF q m t ≤ m - 1 := by unfold hdF; omega
      constructor
      · rintro ⟨h1, h2⟩
        rcases (has_iff hq hd h0 h1).mp (of_decide_eq_true h2) with h | ⟨h3, h4⟩
        · exact .inl h
        · refine .inr ?_
          rw [if_pos h3]
          exact List.mem_singleton.mpr h4
      · rintro (h | h)
        · exact ⟨by omega, decide_eq_true ((has_iff hq hd h0 (by omega)).mpr (.inl h))⟩
        · split at h
          · rename_i h3
            have h4 := List.mem_singleton.mp h
            exact ⟨by omega, decide_eq_true ((has_iff hq hd h0 (by omega)).mpr (.inr ⟨h3, h4⟩))⟩
          · exact absurd h List.not_mem_nil
  rw [hE, List.length_append, List.length_range]
  unfold myF
  split <;> rfl
theorem fl_lacks {q m d t : Nat} (hq : 0 < q) (hm : 0 < m) (hd : d < 2 ^ q) (h0 : d ≠ 0) : (flF q m d t < m → ¬ snF q m d (flF q m d t) < t) ∧ (∀ i, i < flF q m d t → i < m → snF q m d i < t) ∧ flF q m d t ≤ m := by
  obtain ⟨B, _, _, hB, bB, em, c1, c2, c3⟩ := cf_spec (t := t) hq hd h0
  have hhd : hdF q m t ≤ m - 1 := by unfold hdF; omega
  refine ⟨fun hlt => ?_, fun i hi hm2 => ?_, ?_⟩
  · rw [has_iff hq hd h0 hlt]
    unfold flF
    split
    · rename_i h
      omega
    · rename_i h
      omega
  · rw [has_iff hq hd h0 hm2]
    unfold flF at hi
    split at hi
    · rename_i h
      omega
    · omega
  · unfold flF
    split <;> omega
end Bf
namespace Bf
/-! ### letters of each tree, counted -/
def ctF (q j : Nat) (u : Int) : Nat := ((u - (j : Int)) / (q : Int) + 1).toNat
theorem div_step {q : Nat} (hq : 0 < q) (x : Int) : x / (q : Int) = (x - 1) / (q : Int) + (if x % (q : Int) = 0 then 1 else 0) := by
  have h1 := Int.mul_ediv_add_emod x q
  have h2 := Int.emod_nonneg x (show (q : Int) ≠ 0 by omega)
  have h3 := Int.emod_lt_of_pos x (show (0 : Int) < q by omega)
  by_cases c : x % (q : Int) = 0
  · rw [if_pos c]
    have e : x - 1 = (q : Int) * (x / (q : Int) - 1) + ((q : Int) - 1) := by
      rw [Int.mul_sub, Int.mul_one]
      omega
    have := (Int.ediv_emod_unique (a := x - 1) (b := (q : Int)) (r := (q : Int) - 1) (q := x / (q : Int) - 1) (by omega)).mpr ⟨by omega, by omega, by omega⟩
    omega
  · rw [if_neg c]
    have := (Int.ediv_emod_unique (a := x - 1) (b := (q : Int)) (r := x % (q : Int) - 1) (q := x / (q : Int)) (by omega)).mpr ⟨by omega, by omega, by omega⟩
    omega
theorem ct_zero {q j : Nat} {u : Int} (hq : 0 < q) (h : u < (j : Int)) : ctF q j u = 0 := by
  unfold ctF
  have : (u - (j : Int)) / (q : Int) < 0 := Int.ediv_neg_of_neg_of_pos (by omega) (by omega)
  omega
theorem ct_step {q j n : Nat} (hq : 0 < q) (hj : j < q) : ctF q j (n : Int) = ctF q j ((n : Int) - 1) + (if n % q = j then 1 else 0) := by
  by_cases c : n < j
  · rw [ct_zero hq (by omega), ct_zero hq (by omega), if_neg]
    rw [Nat.mod_eq_of_lt (by omega)]
    omega
  · unfold ctF
    rw [div_step hq ((n : Int) - j), show (n : Int) - 1 - (j : Int) = (n : Int) - j - 1 by omega]
    have h0 : -1 ≤ ((n : Int) - j - 1) / (q : Int) := by
      have : (-1 : Int) / (q : Int) ≤ ((n : Int) - j - 1) / (q : Int) := Int.ediv_le_ediv (by omega) (by omega)
      have e : (-1 : Int) / (q : Int) = -1 := by
        have := (Int.ediv_emod_unique (a := (-1 : Int)) (b := (q : Int)) (r := (q : Int) - 1) (q := -1) (by omega)).mpr ⟨by omega, by omega, by omega⟩
        exact this.1
      omega
    have e1 : ((n : Int) - j) % (q : Int) = 0 ↔ n % q = j := by
      have e2 : ((n : Int) - j) = ((n - j : Nat) : Int) := by omega
      rw [e2, ← Int.natCast_emod]
      constructor
      · intro h
        have h : (n - j) % q = 0 := by omega
        have e3 : n = j + (n - j) := by omega
        rw [e3, Nat.add_mod, h, Nat.add_zero, Nat.mod_mod, Nat.mod_eq_of_lt hj]
      · intro h
        have h1 := Nat.div_add_mod n q
        have e3 : n - j = q * (n / q) := by omega
        rw [e3, Nat.mul_mod_right]
        rfl
    by_cases c2 : n % q = j
    · rw [if_pos c2, if_pos (e1.mpr c2)]
      omega
    · rw [if_neg c2, if_neg (fun z => c2 (e1.mp z))]
      omega
/-- of tree j, of the letters below n -/
def caF (q d t j n : Nat) : Nat := ctF q j (min ((n : Int) - 1) ((t : Int) - 1 - (dyF q d j : Nat)))
theorem ca_step {q d t j n : Nat} (hq : 0 < q) (hj : j < q) : caF q d t j (n + 1) = caF q d t j n + (if n % q = j ∧ n + dyF q d j < t then 1 else 0) := by
  unfold caF
  by_cases c : n + dyF q d j < t
  · rw [show min (((n + 1 : Nat) : Int) - 1) ((t : Int) - 1 - (dyF q d j : Nat)) = (n : Int) by omega, show min ((n : Int) - 1) ((t : Int) - 1 - (dyF q d j : Nat)) = (n : Int) - 1 by omega, ct_step hq hj]
    by_cases c2 : n % q = j
    · rw [if_pos c2, if_pos ⟨c2, c⟩]
    · rw [if_neg c2, if_neg (fun z => c2 z.1)]
  · rw [if_neg (fun z => c z.2), show min (((n + 1 : Nat) : Int) - 1) ((t : Int) - 1 - (dyF q d j : Nat)) = (t : Int) - 1 - (dyF q d j : Nat) by omega, show min ((n : Int) - 1) ((t : Int) - 1 - (dyF q d j : Nat)) = (t : Int) - 1 - (dyF q d j : Nat) by omega]
    rfl
/-- of the first r trees -/
def suF (q d t n : Nat) : Nat → Nat
  | 0 => 0
  | r + 1 => suF q d t n r + caF q d t r n
theorem su_step {q d t n : Nat} (hq : 0 < q) : ∀ r, r ≤ q → suF q d t (n + 1) r = suF q d t n r + (if n % q < r ∧ n + dyF q d (n % q) < t then 1 else 0)
  | 0, _ => by
    rw [if_neg (fun z => absurd z.1 (Nat.not_lt_zero _))]
    rfl
  | r + 1, h => by
    show suF q d t (n + 1) r + caF q d t r (n + 1) = suF q d t n r + caF q d t r n + _
    rw [su_step hq r (by omega), ca_step hq (by omega)]
    by_cases c : n % q = r
    · subst c
      by_cases c2 : n + dyF q d (n % q) < t
      · rw [if_neg (by omega), if_pos ⟨rfl, c2⟩, if_pos ⟨by omega, c2⟩]
        omega
      · rw [if_neg (fun z => c2 z.2), if_neg (fun z => c2 z.2), if_neg (fun z => c2 z.2)]
        omega
    · rw [if_neg (fun (z : n % q = r ∧ _) => c z.1)]
      by_cases c2 : n % q < r ∧ n + dyF q d (n % q) < t
      · rw [if_pos c2, if_pos ⟨by omega, c2.2⟩]
        omega
      · rw [if_neg c2, if_neg (fun z => c2 ⟨by omega, z.2⟩)]
        omega
theorem su_zero {q d t : Nat} (hq : 0 < q) : ∀ r, suF q d t 0 r = 0
  | 0 => rfl
  | r + 1 => by
    show suF q d t 0 r + caF q d t r 0 = 0
    rw [su_zero hq r]
    unfold caF
    rw [ct_zero hq (by omega)]
theorem su_count {q m d t : Nat} (hq : 0 < q) : ∀ n, n + 1 ≤ m → suF q d t n q = ((List.range n).filter fun i => decide (snF q m d i < t)).length
  | 0, _ => su_zero hq q
  | n + 1, h => by
    rw [su_step hq q (Nat.le_refl q), su_count (m := m) hq n (by omega), List.range_succ, List.filter_append, List.length_append]
    have hs : snF q m d n = n + dyF q d (n % q) := by
      unfold snF
      rw [if_neg (by omega)]
    have hn := Nat.mod_lt n hq
    by_cases c : snF q m d n < t
    · rw [if_pos ⟨hn, by omega⟩]
      simp [c]
    · rw [if_neg (fun z => c (by omega))]
      simp [c]
theorem su_my {q m d t : Nat} (hq : 0 < q) (hm : 0 < m) (hd : d < 2 ^ q) (h0 : d ≠ 0) : suF q d t (m - 1) q + (if snF q m d (m - 1) < t then 1 else 0) = myF q m d t := by
  rw [← my_count hq hm hd h0, su_count (m := m) hq (m - 1) (by omega)]
  obtain ⟨n, rfl⟩ : ∃ n, m = n + 1 := ⟨m - 1, by omega⟩
  rw [show n + 1 - 1 = n by omega, List.range_succ, List.filter_append, List.length_append]
  by_cases c : snF q (n + 1) d n < t
  · simp [c]
  · simp [c]
theorem ca_int {q d t j m : Nat} (hm : 0 < m) : (if ((if ((t : Int) - 1 - (dyF q d j : Nat)) < ((m : Int) - 2) then ((t : Int) - 1 - (dyF q d j : Nat)) else ((m : Int) - 2)) - (j : Int)) / (q : Int) + 1 > 0 then ((if ((t : Int) - 1 - (dyF q d j : Nat)) < ((m : Int) - 2) then ((t : Int) - 1 - (dyF q d j : Nat)) else ((m : Int) - 2)) - (j : Int)) / (q : Int) + 1 else 0) = ((caF q d t j (m - 1) : Nat) : Int) := by
  have e : (if ((t : Int) - 1 - (dyF q d j : Nat)) < ((m : Int) - 2) then ((t : Int) - 1 - (dyF q d j : Nat)) else ((m : Int) - 2)) = min (((m - 1 : Nat) : Int) - 1) ((t : Int) - 1 - (dyF q d j : Nat)) := by
    split <;> omega
  rw [e]
  unfold caF ctF
  generalize (min (((m - 1 : Nat) : Int) - 1) ((t : Int) - 1 - (dyF q d j : Nat)) - (j : Int)) / (q : Int) = z
  split <;> omega
theorem my_le {q m d t : Nat} (hm : 0 < m) : myF q m d t ≤ m := by
  unfold myF hdF
  split <;> omega
end Bf
namespace Bf
open PySem PySem.Spec PyProof.Rows L2 LamX NdefX
/-! ### all by names, in any order -/
def gP {α : Type} (π : List Nat) (us ws : List α) : List α := match us with
  | [] => if ws.length = π.length then π.filterMap (fun i => ws[i]?) else []
  | _ :: _ => []
theorem vals_get {zs : List V} {ws : List Value} (r : Vals zs ws) : ∀ i : Nat, (zs[i]? = none ∧ ws[i]? = none) ∨ ∃ z w, zs[i]? = some z ∧ ws[i]? = some w ∧ RelV z w := by
  induction r with
  | nil => exact fun i => .inl ⟨by simp, by simp⟩
  | cons a r ih =>
    intro i
    cases i with
    | zero => exact .inr ⟨_, _, rfl, rfl, a⟩
    | succ i => simpa using ih i
theorem gP_pick {zs : List V} {ws : List Value} (r : Vals zs ws) : ∀ π : List Nat, Vals (π.filterMap (fun i => zs[i]?)) (π.filterMap (fun i => ws[i]?))
  | [] => .nil
  | i :: π => by
    have ih := gP_pick r π
    rcases vals_get r i with ⟨e1, e2⟩ | ⟨z, w, e1, e2, rz⟩
    · rw [List.filterMap_cons_none e1, List.filterMap_cons_none e2]
      exact ih
    · rw [List.filterMap_cons_some e1, List.filterMap_cons_some e2]
      exact .cons rz ih
theorem gP_rel {π : List Nat} {vs zs : List V} {us ws : List Value} (r1 : Vals vs us) (r2 : Vals zs ws) : Vals (gP π vs zs) (gP π us ws) := by
  cases r1 with
  | nil =>
    show Vals (if zs.length = π.length then _ else []) (if ws.length = π.length then _ else [])
    rw [r2.length]
    by_cases e : ws.length = π.length
    · rw [if_pos e, if_pos e]
      exact gP_pick r2 π
    · rw [if_neg e, if_neg e]
      exact .nil
  | cons _ _ => exact .nil
theorem gP_len {π : List Nat} {us ws : List Value} {n : Nat} (hn : 0 < n) (h : (gP π us ws).length = n) : us = [] ∧ ws.length = π.length := by
  cases us with
  | nil =>
    refine ⟨rfl, Classical.byContradiction fun e => ?_⟩
    have : (if ws.length = π.length then π.filterMap (fun i => ws[i]?) else []).length = n := h
    rw [if_neg e] at this
    have : 0 = n := this
    omega
  | cons _ _ =>
    have : 0 = n := h
    omega
theorem kbP {π : List Nat} {ps ks : List Str} {K : PySem.W.Frag} {x : Str} {st : Stmt} {f : Addr} {fd : FuncData} (F : FunS K x st f fd) (hp : 0 < ps.length)
    (h : ∀ (kV doc pm : Value) (an : Option Addr) (cdv ct : Value) (ws : List Value), ws.length = π.length → bindArgs (PySem.W.fnOf x x (defArgs st) (defBody st) (defScope st) .none kV doc pm an cdv ct) ⟨[], ks.zip ws⟩ = pure (ps.zip (gP π [] ws))) :
    KBinds K fd ps ks (gP π) (gP π) := by
  obtain ⟨oc, od, dV, kV, doc, pm, an, cdv, ct, osl, rfl, lk, hcd, hD, hK⟩ := F.ex
  rcases hD with ⟨_, rfl⟩ | ⟨z, _⟩
  · refine ⟨fun s us ws _ hl => ?_, fun r1 r2 => gP_rel r1 r2⟩
    obtain ⟨rfl, hw⟩ := gP_len hp hl
    exact .of_eq (h kV doc pm an cdv ct ws hw)
  · exact absurd rfl z
theorem kbQ {π : List Nat} {ps ks : List Str} {K : PySem.W.Frag} {x : Str} {st : Stmt} {f : Addr} {fd : FuncData} (F : Fun K x x st f fd) (hp : 0 < ps.length)
    (h : ∀ (kV doc pm : Value) (an : Option Addr) (cdv ct : Value) (ws : List Value), ws.length = π.length → bindArgs (PySem.W.fnOf x x (defArgs st) (defBody st) (defScope st) .none kV doc pm an cdv ct) ⟨[], ks.zip ws⟩ = pure (ps.zip (gP π [] ws))) :
    KBinds K fd ps ks (gP π) (gP π) := by
  obtain ⟨oc, od, kV, doc, pm, an, cdv, ct, osl, rfl, lk, hcd⟩ := F.ex
  refine ⟨fun s us ws _ hl => ?_, fun r1 r2 => gP_rel r1 r2⟩
  obtain ⟨rfl, hw⟩ := gP_len hp hl
  exact .of_eq (h kV doc pm an cdv ct ws hw)
/-! ### data of some kinds in a list -/
structure Okd (d : PyData) : Prop where
  sh : d.showable = true
  di : d.hasDict = false
  de : d.depth ≤ 2
  lv : d.leavesShort 64 = true
  we : d.weight ≤ 200
theorem okd_none : Okd .none := ⟨rfl, rfl, by decide, rfl, by decide⟩
theorem okd_bool (b : Bool) : Okd (.bool b) := by cases b <;> exact ⟨rfl, rfl, by decide, rfl, by decide⟩
theorem okd_tup {ns : List Nat} (h : ∀ n ∈ ns, n < 2 ^ 61) (hl : ns.length ≤ 3) : Okd (.tuple (nd' ns)) := by
  refine ⟨nd_show _ h, nd_dict _, nd_dep _, nd_leaves _ h, ?_⟩
  have h2 : PyData.weight (.tuple (nd' ns)) ≤ 63 * ns.length := nd_weight ns h
  omega
theorem okd_int {n : Nat} (h : n < 2 ^ 61) : Okd (.int (n : Int)) := by
  have h1 : ∀ x ∈ [n], x < 2 ^ 61 := fun x hx => by rw [List.mem_singleton.mp hx]; exact h
  have a1 : (PyData.showable (.int (n : Int)) && PyData.showableAll []) = true := nd_show [n] h1
  have a2 : (PyData.leavesShort 64 (.int (n : Int)) && PyData.leavesShortAll 64 []) = true := nd_leaves [n] h1
  have a3 : PyData.weight (.int (n : Int)) + 1 + PyData.weightAll [] ≤ 63 * 1 := nd_weight [n] h1
  exact ⟨(Bool.and_eq_true _ _ ▸ a1).1, rfl, Nat.le_trans (by show PyData.depth (.int _) ≤ 1; simp [PyData.depth]) (by decide), (Bool.and_eq_true _ _ ▸ a2).1, by omega⟩
theorem okd_all : ∀ ds : List PyData, (∀ d ∈ ds, Okd d) → PyData.showableAll ds = true ∧ PyData.hasDictAll ds = false ∧ PyData.depthAll ds ≤ 2 ∧ PyData.leavesShortAll 64 ds = true ∧ PyData.weightAll ds ≤ 201 * ds.length
  | [], _ => ⟨rfl, rfl, by simp [PyData.depthAll], rfl, Nat.le_refl _⟩
  | d :: ds, h => by
    obtain ⟨a1, a2, a3, a4, a5⟩ := okd_all ds fun x hx => h x (List.mem_cons_of_mem _ hx)
    have o := h d List.mem_cons_self
    refine ⟨?_, ?_, ?_, ?_, ?_⟩
    · show (PyData.showable d && PyData.showableAll ds) = true
      rw [o.sh, a1]
      rfl
    · show (PyData.hasDict d || PyData.hasDictAll ds) = false
      rw [o.di, a2]
      rfl
    · show max (PyData.depth d) (PyData.depthAll ds) ≤ 2
      have := o.de
      omega
    · show (PyData.leavesShort 64 d && PyData.leavesShortAll 64 ds) = true
      rw [o.lv, a4]
      rfl
    · show PyData.weight d + 1 + PyData.weightAll ds ≤ 201 * (ds.length + 1)
      have := o.we
      omega
theorem okd_list {ds : List PyData} (h : ∀ d ∈ ds, Okd d) (hl : ds.length ≤ 100) : (PyData.list ds).showable = true ∧ (PyData.list ds).hasDict = false ∧ (PyData.list ds).depth < 60 ∧ (PyData.list ds).shown.length ≤ sizeLine := by
  obtain ⟨a1, a2, a3, a4, a5⟩ := okd_all ds h
  refine ⟨a1, a2, ?_, ?_⟩
  · show PyData.depthAll ds + 1 < 60
    omega
  · have h1 := PyData.shown_le 64 (by decide) (.list ds) a4
    have h2 : PyData.weight (.list ds) ≤ 201 * ds.length := a5
    rw [sizeLine_eq]
    have h3 : (64 + 2) * PyData.weight (.list ds) ≤ 66 * (201 * 100) := Nat.mul_le_mul (by decide) (by omega)
    omega
/-- what stands for itself -/
def vD : V → PyData
  | .non => .none
  | .bl b => .bool b
  | .int i => .int i
  | _ => .none
def Imm (v : V) : Prop := v = .non ∨ (∃ b, v = .bl b) ∨ ∃ n : Nat, n < 2 ^ 61 ∧ v = .int (n : Int)
theorem Imm.dp {K : PySem.W.Frag} {H : Hp} {v : V} (h : Imm v) : Dp K H v (vD v) := by
  rcases h with rfl | ⟨b, rfl⟩ | ⟨n, _, rfl⟩
  · exact .non
  · exact .bl b
  · exact .int _
theorem Imm.ok {v : V} (h : Imm v) : Okd (vD v) := by
  rcases h with rfl | ⟨b, rfl⟩ | ⟨n, hn, rfl⟩
  · exact okd_none
  · exact okd_bool b
  · exact okd_int hn
theorem imm_int {n : Nat} (h : n < 2 ^ 61) : Imm (.int (n : Int)) := .inr (.inr ⟨n, h, rfl⟩)
theorem imm_bl (b : Bool) : Imm (.bl b) := .inr (.inl ⟨b, rfl⟩)
theorem imm_if {c : Prop} [Decidable c] {a b : V} (ha : Imm a) (hb : Imm b) : Imm (if c then a else b) := by
  split
  · exact ha
  · exact hb
/-- a pair or nothing -/
def PrO (H : Hp) (v : V) (o : Option (Nat × Nat)) : Prop := match o with
  | none => v = .non
  | some ab => ∃ p, v = .ref p ∧ H p = some (.tup (nv [ab.1, ab.2]))
def oD : Option (Nat × Nat) → PyData
  | none => .none
  | some ab => .tuple (nd' [ab.1, ab.2])
theorem PrO.ext {H H' : Hp} {v : V} {o : Option (Nat × Nat)} (h : PrO H v o) (x : ExtN H H') : PrO H' v o := by
  cases o with
  | none => exact h
  | some ab =>
    obtain ⟨p, e, hp⟩ := h
    exact ⟨p, e, x _ _ hp (fun ps z => nomatch z)⟩
theorem PrO.upd' {H : Hp} {L : Addr} {l l' : List V} {v : V} {o : Option (Nat × Nat)} (h : PrO H v o) (eL : H L = some (.lst l)) : PrO (upd H L (.lst l')) v o := by
  cases o with
  | none => exact h
  | some ab =>
    obtain ⟨p, e, hp⟩ := h
    refine ⟨p, e, ?_⟩
    rw [upd_ne (fun z => by rw [z, eL] at hp; cases hp)]
    exact hp
theorem PrO.dp {K : PySem.W.Frag} {H : Hp} {v : V} {o : Option (Nat × Nat)} (h : PrO H v o) : Dp K H v (oD o) := by
  cases o with
  | none =>
    have h : v = .non := h
    subst h
    exact .non
  | some ab =>
    obtain ⟨p, rfl, hp⟩ := h
    exact .tup (.inl (.inl hp)) (dp_nv _)
theorem oD_ok {o : Option (Nat × Nat)} (h : ∀ ab, o = some ab → ab.1 < 2 ^ 61 ∧ ab.2 < 2 ^ 61) : Okd (oD o) := by
  cases o with
  | none => exact okd_none
  | some ab =>
    obtain ⟨h1, h2⟩ := h ab rfl
    refine okd_tup (fun n hn => ?_) (by show 2 ≤ 3; decide)
    rcases List.mem_cons.mp hn with rfl | hn
    · exact h1
    · rw [List.mem_singleton.mp hn]
      exact h2
def hdO (q m s h t : Nat) : Option (Nat × Nat) := (duF q m (h ^^^ s) t).map fun l => (h ^^^ 2 ^ (t % q), l)
def tdO (q m s h t : Nat) : Option (Nat × Nat) := (duF q m (h ^^^ 2 ^ (t % q) ^^^ s) t).map fun l => (h ^^^ 2 ^ (t % q), l)
theorem du_none {q m d t : Nat} (c : t < ltF q d (t % q)) : duF q m d t = none := by
  unfold duF
  rw [if_pos c]
theorem du_some {q m d t : Nat} (c : ¬ t < ltF q d (t % q)) : duF q m d t = some (min (t - ltF q d (t % q)) (m - 1)) := by
  unfold duF
  rw [if_neg c]
theorem du_lt {q m d t l : Nat} (hm : 0 < m) (h : duF q m d t = some l) : l < m := by
  unfold duF at h
  by_cases c : t < ltF q d (t % q)
  · rw [if_pos c] at h
    cases h
  · rw [if_neg c] at h
    have := Option.some.inj h
    omega
theorem pair_small {q m d h t : Nat} (hq : 0 < q) (hq6 : q ≤ 60) (hm : 0 < m) (hm2 : m ≤ 1000000000000000000) (hh : h < 2 ^ q) (ab : Nat × Nat) (e : (duF q m d t).map (fun l => (h ^^^ 2 ^ (t % q), l)) = some ab) : ab.1 < 2 ^ 61 ∧ ab.2 < 2 ^ 61 := by
  cases z : duF q m d t with
  | none => rw [z] at e; cases e
  | some l =>
    rw [z] at e
    have e : (h ^^^ 2 ^ (t % q), l) = ab := Option.some.inj e
    subst e
    have := du_lt hm z
    refine ⟨?_, by show l < 2 ^ 61; omega⟩
    exact Nat.lt_of_lt_of_le (Nat.xor_lt_two_pow hh (Nat.pow_lt_pow_right (by decide) (Nat.mod_lt _ hq))) (Nat.pow_le_pow_right (by decide) (by omega))
end Bf
namespace Bf
open PySem PySem.Spec PyProof.Rows L2 LamX NdefX
def PotC (H : Hp) (a : Addr) (n : Nat) : Prop := ∃ x y z : Int, H a = some (.lst [.int x, .int y, .int z]) ∧ 0 ≤ x ∧ 0 ≤ y ∧ y < 4611686018427387904 ∧ 0 ≤ z ∧ z ≤ n
theorem PotC.up {H : Hp} {a : Addr} {n m : Nat} (h : PotC H a n) (l : n ≤ m) : PotC H a m := let ⟨x, y, z, h1, h2, h3, h4, h5, h6⟩ := h; ⟨x, y, z, h1, h2, h3, h4, h5, by omega⟩
theorem PotC.new {H : Hp} {a p : Addr} {n : Nat} {o : HO} (h : PotC H a n) (hp : H p = none) : PotC (upd H p o) a n := let ⟨x, y, z, h1, h2⟩ := h; ⟨x, y, z, by rw [upd_ne (ne_of_none h1 hp)]; exact h1, h2⟩
theorem PotC.same {H H' : Hp} {a : Addr} {n : Nat} (h : PotC H a n) (s : Same H H') : PotC H' a n := let ⟨x, y, z, h1, h2⟩ := h; ⟨x, y, z, s _ _ h1, h2⟩

theorem PotC.ext {H H' : Hp} {a : Addr} {n : Nat} (h : PotC H a n) (s : ExtN H H') : PotC H' a n := let ⟨x, y, z, h1, h2⟩ := h; ⟨x, y, z, s _ _ h1 (fun ps z => nomatch z), h2⟩
theorem tabs_keepsC {T : List (Addr × Str)} {H H' : Hp} {a : Addr} {m : Nat} (p : PotC H a m) (t : Tabs T H) (k : Keeps a H H') : Tabs T H' := fun q hq => by
  obtain ⟨x, y, z, hH, _⟩ := p
  obtain ⟨ps, h1, h2, h3⟩ := t q hq
  refine ⟨ps, k _ _ (fun e => ?_) h1, h2, fun pos cv hc => ?_⟩
  · rw [e, hH] at h1
    cases h1
  · obtain ⟨c, e1, e2⟩ := h3 pos cv hc
    refine ⟨c, e1, k _ _ (fun e => ?_) e2⟩
    rw [e, hH] at e2
    unfold CodeO at e2
    cases e2
theorem potC_ne {H : Hp} {p u : Addr} {m : Nat} (h : PotC H p m) (n : H u = none) : u ≠ p := fun e => by
  obtain ⟨x, y, z, hH, _⟩ := h
  rw [e, hH] at n
  cases n
end Bf
namespace Bf
open PySem PySem.Spec PyProof.Rows L2
def topS (i : Nat) : Stmt := PySem.Challenge.pw_beatferry_k48_back_beat_by_beat.main.body.getD i (.Pass ⟨0, 0, 0, 0⟩)
abbrev sBits : Stmt := topS 1
abbrev sHas : Stmt := topS 2
abbrev sArc : Stmt := topS 3
abbrev sRound : Stmt := topS 4
abbrev sLast : Stmt := topS 5
abbrev sNext : Stmt := topS 6
abbrev sAcross : Stmt := topS 8
abbrev sDelay : Stmt := topS 9
abbrev sTree : Stmt := topS 11
abbrev sLat : Stmt := topS 12
abbrev sDue : Stmt := topS 13
abbrev sHeard : Stmt := topS 14
abbrev sEnd : Stmt := topS 16
abbrev sSince : Stmt := topS 17
abbrev sCby : Stmt := topS 18
abbrev sTb : Stmt := topS 20
abbrev sBt : Stmt := topS 21
abbrev sBh : Stmt := topS 22
abbrev sPot : Stmt := topS 24
abbrev sTake : Stmt := topS 25
abbrev sLdue : Stmt := topS 26
abbrev sFirsts : Stmt := topS 27
abbrev sBr : Stmt := topS 28
abbrev sRi : Stmt := topS 29
abbrev sLaw : Stmt := topS 30
theorem scPot : FnScope ["_law_script", "_law_k", "_law_cell"] ["_law_script", "_law_k"] (defScope sPot) := ⟨rfl, rfl, rfl, by decide +kernel, rfl, by decide +kernel, by decide +kernel⟩
theorem scTake : FnScope ["_law_pot_here", "_law_wide", "_law_digit", "_law_primes", "_law_prime", "_law_drawn"] ["_law_pot_here", "_law_wide"] (defScope sTake) := ⟨rfl, rfl, rfl, by decide +kernel, rfl, by decide +kernel, by decide +kernel⟩
section
variable {P : Program} {w : World} {K : PySem.W.Frag} {mg : Str → Option Value} {base : Heap} {f fT fO fF : Addr} {fd fdT fdO fdF : FuncData} {k : Nat}
/-! ### pot -/
def spPot (K : PySem.W.Frag) : Sp := fun vs H Q _ => ∃ (a : Addr) (ns : List Int) (k : Nat), vs = [.ref a, .int k] ∧ SqL K H a (ns.map V.int) ∧ ns.length ≤ 63 ∧ k ≤ 100 ∧
  ∀ H' p, Same H H' → H p = none → PotC H' p 0 → Q (.ref p) H'
theorem ok_pot (F : Fun K "_law_pot" "_law_pot" sPot f fd) (ml : mg "len" = none) (ma : mg "abs" = none) (mi : mg "int" = none) : FnOk P w K mg base CX0 (k + 1) f fd ["_law_script", "_law_k"] (spPot K) := by
  refine F.ok scPot (fun vs H Q E h => ?_) (fun cdv A outer s H vs Q E hr h => ?_)
  · obtain ⟨a, ns, k, rfl, _⟩ := h
    rfl
  · obtain ⟨a, ns, k, rfl, hS, hl, hk, q⟩ := h
    refine ⟨_, pss_cons (ps_set (i := 2) scPot.nd rfl (.inl rfl) (pe_ifExp (pt_cmpR op_lt (pv 1) (pe_callB call_len_seq (by rfl) ml PySem.boot_len (pa_cons (pv 0) pa_nil)) (nomark _)) (pe_ix ix_list (pv 0) (pv 1) (fun _ _ => rfl)) pe_int))
      (pss_one (ps_ret (pe_lst (pa_cons (pe_op op_mul (pe_callB call_abs (by rfl) ma (by decide +kernel) (pa_cons (pv 2) pa_nil)) (pe_callTy call_int1 (by rfl) mi (by decide +kernel) (pa_cons (pe_cmpR op_ge (pe_callB call_abs (by rfl) ma (by decide +kernel) (pa_cons (pv 2) pa_nil)) (pe_op op_pow pe_int pe_int) (nomark _)) pa_nil)))
        (pa_cons (pe_op op_add (pe_op op_add (pe_op op_mod (pv 2) pe_int) (pe_op op_mul pe_int (pv 1))) pe_int) (pa_cons pe_int pa_nil)))))), ?_⟩
    have fin : ∀ (x y : Int), 0 ≤ x → 0 ≤ y → y < 4611686018427387904 → ∀ p, H p = none → Q (.ref p) (upd H p (.lst [.int x, .int y, .int 0])) := fun x y h1 h2 h3 p np =>
      q _ p (same_new (Same.refl H) np) np ⟨x, y, 0, upd_same, h1, h2, h3, by omega, by omega⟩
    refine rd_ifI (decide ((k : Int) < ((ns.map V.int).length : Int))) (fun _ => True) ?_ ?_ ?_ ?_
    · exact fun Q' h => ⟨.int k, rfl, .ref a, rfl, a, _, rfl, .inl hS, _, _, rfl, rfl, _, rfl, h⟩
    · intro e
      have z : (k : Int) < ((ns.map V.int).length : Int) := of_decide_eq_true e
      rw [List.length_map] at z
      have z2 : k < ns.length := by omega
      exact ⟨ns[k], trivial, fun Q' h => ⟨.ref a, rfl, .int k, rfl, a, _, _, _, rfl, rfl, hS, atI_nat (j := k) (by rw [List.getElem?_map, List.getElem?_eq_getElem z2]; rfl), h⟩⟩
    · exact fun _ => ⟨0, trivial, fun Q' h => h⟩
    intro c _
    dsimp only [gName, tSeq, tAsg]
    refine ⟨.int c, rfl, c, rfl, .int c, rfl, c, rfl, _, _, rfl, rfl, ⟨by decide, by decide, by decide⟩, _, _, rfl, rfl, .inr ⟨_, rfl, ?_⟩⟩
    generalize decide ((10 : Int) ^ (18 : Int).toNat ≤ _) = bb
    have hpos : (0 : Int) ≤ (if c < 0 then -c else c) := by split <;> omega
    refine ⟨_, _, rfl, rfl, .inr ?_, ?_⟩
    · cases bb <;> exact ⟨by decide, by decide⟩
    have hown : (0 : Int) ≤ (if c < 0 then -c else c) * (if bb = true then 1 else 0) := Int.mul_nonneg hpos (by cases bb <;> decide)
    refine ⟨.int c, rfl, _, _, rfl, rfl, (show (0 : Int) < 2305843009213693951 by decide), .int k, rfl, _, _, rfl, rfl, .inl ⟨by decide, by decide⟩, _, _, rfl, rfl, _, _, rfl, rfl, (by show 3 ≤ sizeLine; decide), fun p np => ?_⟩
    have h1 : 0 ≤ c % 2305843009213693951 := Int.emod_nonneg _ (by decide)
    have h2 : c % 2305843009213693951 < 2305843009213693951 := Int.emod_lt_of_pos _ (by decide)
    exact fin _ _ hown (by omega) (by omega) p np
/-! ### take -/
theorem primes8 (n : Int) (h0 : 0 ≤ n) (h : n < 8) : ∃ v : Int, atI [V.int 2147483647, .int 2147483629, .int 2147483587, .int 2147483579, .int 2147483563, .int 2147483549, .int 2147483543, .int 2147483497] n = some (.int v) ∧ 0 < v ∧ v ≤ 2147483647 := by
  obtain ⟨m, rfl⟩ := Int.eq_ofNat_of_zero_le h0
  match m, h with
  | 0, _ => exact ⟨_, rfl, by decide, by decide⟩
  | 1, _ => exact ⟨_, rfl, by decide, by decide⟩
  | 2, _ => exact ⟨_, rfl, by decide, by decide⟩
  | 3, _ => exact ⟨_, rfl, by decide, by decide⟩
  | 4, _ => exact ⟨_, rfl, by decide, by decide⟩
  | 5, _ => exact ⟨_, rfl, by decide, by decide⟩
  | 6, _ => exact ⟨_, rfl, by decide, by decide⟩
  | 7, _ => exact ⟨_, rfl, by decide, by decide⟩
def spTake : Sp := fun vs H Q _ => ∃ (a : Addr) (n m : Nat), vs = [.ref a, .int n] ∧ 0 < n ∧ n < 4294967296 ∧ PotC H a m ∧ m < 100000 ∧ ∀ (r : Nat) H', r < n → Keeps a H H' → PotC H' a (m + 1) → Q (.int r) H'
theorem ok_take (F : Fun K "_law_take" "_law_take" sTake f fd) : FnOk P w K mg base CX0 (k + 1) f fd ["_law_pot_here", "_law_wide"] spTake := by
  refine F.ok scTake (fun vs H Q E h => ?_) (fun cdv A outer s H vs Q E hr h => ?_)
  · obtain ⟨a, n, m, rfl, _⟩ := h
    rfl
  · obtain ⟨a, n, m, rfl, hn, hn2, ⟨x, y, z, hH, hx, hy, hy2, hz, hz2⟩, hm, q⟩ := h
    refine ⟨_, pss_cons (ps_if (pt_cmpR op_gt (pe_ix ix_list (pv 0) pe_int (fun _ _ => rfl)) pe_int (nomark _))
        (pss_cons (ps_set (i := 2) scTake.nd rfl (.inl rfl) (pe_op op_mod (pe_ix ix_list (pv 0) pe_int (fun _ _ => rfl)) (pv 1)))
        (pss_cons (ps_asg (pe_op op_fdivW (pe_ix ix_list (pv 0) pe_int (fun _ _ => rfl)) (pv 1)) (pg_sub (pv 0) pe_int set_list))
        (pss_one (ps_ret (pv 2))))) pss_nil)
      (pss_cons (ps_asg (pe_op op_add (pe_ix ix_list (pv 0) pe_int (fun _ _ => rfl)) pe_int) (pg_sub (pv 0) pe_int set_list))
      (pss_cons (ps_set (i := 3) scTake.nd rfl (.inl rfl) (pe_lst (pa_cons pe_int (pa_cons pe_int (pa_cons pe_int (pa_cons pe_int (pa_cons pe_int (pa_cons pe_int (pa_cons pe_int (pa_cons pe_int pa_nil))))))))))
      (pss_cons (ps_set (i := 4) scTake.nd rfl (.inl rfl) (pe_ix ix_list (pv 3) (pe_op op_mod (pe_ix ix_list (pv 0) pe_int (fun _ _ => rfl)) pe_int) (fun _ _ => rfl)))
      (pss_cons (ps_set (i := 5) scTake.nd rfl (.inl rfl) (pe_op op_add (pe_ix ix_list (pv 0) pe_int (fun _ _ => rfl)) (pe_op op_mul (pe_op op_mul pe_int (pe_ix ix_list (pv 0) pe_int (fun _ _ => rfl))) (pe_ix ix_list (pv 0) pe_int (fun _ _ => rfl)))))
      (pss_cons (ps_set (i := 5) scTake.nd rfl (.inl rfl) (pe_op op_add (pe_op op_mod (pe_op op_mod (pv 5) (pe_op op_pow (pv 4) pe_int)) (pv 4)) pe_int))
      (pss_one (ps_ret (pe_op op_mod (pe_op op_fdiv (pe_op op_mod (pe_op op_mul (pv 5) (pe_op op_add (pe_op op_mod (pv 5) pe_int) (pe_ix ix_list (pv 0) pe_int (fun _ _ => rfl)))) (pv 4)) pe_int) (pv 1))))))))), ?_⟩
    have hL : SqL K H a [.int x, .int y, .int z] := .inl (.inl hH)
    have hnI : (0 : Int) < (n : Int) := by omega
    refine ⟨.ref a, rfl, a, _, _, .int x, rfl, rfl, hL, rfl, _, _, rfl, rfl, _, rfl, ite2 (fun e => ?_) (fun e => ?_)⟩
    · obtain ⟨r, er, hr2⟩ := nat_of (n := n) (Int.emod_nonneg x (Int.ne_of_gt hnI)) (Int.emod_lt_of_pos x hnI)
      refine ⟨.ref a, rfl, a, _, _, .int x, rfl, rfl, hL, rfl, .int n, rfl, _, _, rfl, rfl, hnI, ?_⟩
      refine ⟨.ref a, rfl, a, _, _, .int x, rfl, rfl, hL, rfl, .int n, rfl, _, _, rfl, rfl, wide_div (b := 32) hnI (by show (n : Int).natAbs < 4294967296; omega) (by decide) (by decide), .ref a, rfl, a, _, _, 0, rfl, rfl, hH, rfl, .int (x % n), rfl, ?_⟩
      rw [er]
      exact q r _ hr2 (Keeps.refl a H).at ⟨x / n, y, z, upd_same, Int.ediv_nonneg hx (Int.le_of_lt hnI), hy, hy2, hz, by omega⟩
    · refine ⟨.ref a, rfl, a, _, _, .int z, rfl, rfl, hL, rfl, _, _, rfl, rfl, .ref a, rfl, a, _, _, 2, rfl, rfl, hH, rfl, (by show 8 ≤ sizeLine; decide), fun p np => ?_⟩
      obtain ⟨v, hv, hv0, hv1⟩ := primes8 ((z + 1) % 8) (Int.emod_nonneg _ (by decide)) (Int.emod_lt_of_pos _ (by decide))
      have hap : a ≠ p := fun e => by
        rw [← e, upd_same] at np
        cases np
      have hL2 : SqL K (upd (upd H a (.lst [.int x, .int y, .int (z + 1)])) p (.lst [V.int 2147483647, .int 2147483629, .int 2147483587, .int 2147483579, .int 2147483563, .int 2147483549, .int 2147483543, .int 2147483497])) a [.int x, .int y, .int (z + 1)] := .inl (.inl (by rw [upd_ne hap, upd_same]))
      refine ⟨.ref p, rfl, .ref a, rfl, a, _, _, .int (z + 1), rfl, rfl, hL2, rfl, _, _, rfl, rfl, (show (0 : Int) < 8 by decide), p, _, _, .int v, rfl, rfl, .inl (.inl upd_same), hv, ?_⟩
      have hv2 : (0 : Int) < v ^ (2 : Int).toNat := by
        show (0 : Int) < v ^ 2
        exact Int.pow_pos hv0
      refine ⟨.ref a, rfl, a, _, _, .int y, rfl, rfl, hL2, rfl, .ref a, rfl, a, _, _, .int (z + 1), rfl, rfl, hL2, rfl, _, _, rfl, rfl, .inl ⟨by decide, by decide⟩, .ref a, rfl, a, _, _, .int (z + 1), rfl, rfl, hL2, rfl, _, _, rfl, rfl, .inr ⟨by omega, by omega⟩, _, _, rfl, rfl, ?_⟩
      refine ⟨_, rfl, .int v, rfl, _, _, rfl, rfl, ⟨by decide, by decide, by omega⟩, _, _, rfl, rfl, hv2, .int v, rfl, _, _, rfl, rfl, hv0, _, _, rfl, rfl, ?_⟩
      generalize eg : (y + 69621 * (z + 1) * (z + 1)) % v ^ (2 : Int).toNat % v + 1 = mx
      have m0 : 0 ≤ mx := by
        have := Int.emod_nonneg ((y + 69621 * (z + 1) * (z + 1)) % v ^ (2 : Int).toNat) (Int.ne_of_gt hv0)
        omega
      have m1 : mx < 2147483649 := by
        have := Int.emod_lt_of_pos ((y + 69621 * (z + 1) * (z + 1)) % v ^ (2 : Int).toNat) hv0
        omega
      refine ⟨_, rfl, _, rfl, _, _, rfl, rfl, (show (0 : Int) < 1009 by decide), .ref a, rfl, a, _, _, .int (z + 1), rfl, rfl, hL2, rfl, _, _, rfl, rfl, _, _, rfl, rfl, .inl ⟨by omega, by omega⟩, .int v, rfl, _, _, rfl, rfl, hv0, _, _, rfl, rfl, ⟨by decide, by decide⟩, .int n, rfl, _, _, rfl, rfl, hnI, ?_⟩
      generalize (_ : Int) / 7 = g
      obtain ⟨r, er, hr2⟩ := nat_of (n := n) (Int.emod_nonneg g (Int.ne_of_gt hnI)) (Int.emod_lt_of_pos g hnI)
      show Q (.int (g % n)) _
      rw [er]
      refine q r _ hr2 ((Keeps.refl a H).at.new np) ⟨x, y, z + 1, by rw [upd_ne hap, upd_same]; rfl, hx, hy, hy2, by omega, by omega⟩
end
theorem scHas : FnScope ["hand", "k"] ["hand", "k"] (defScope sHas) := ⟨rfl, rfl, rfl, by decide +kernel, rfl, by decide +kernel, by decide +kernel⟩
theorem scBits : FnScope ["hand", "k"] ["hand"] (defScope sBits) := ⟨rfl, rfl, rfl, by decide +kernel, rfl, by decide +kernel, by decide +kernel⟩
section
variable {P : Program} {w : World} {K : PySem.W.Frag} {mg : Str → Option Value} {base : Heap} {f fH fA fB fR : Addr} {fd fdH fdA fdB fdR : FuncData} {k : Nat}
def spHas : Sp := fun vs H Q _ => ∃ h k : Nat, vs = [.int h, .int k] ∧ Q (.bl (h.testBit k)) H
theorem ok_has (F : Fun K "has_bit" "has_bit" sHas f fd) : FnOk P w K mg base CX0 (k + 1) f fd ["hand", "k"] spHas := by
  refine F.ok scHas (fun vs H Q E h => ?_) (fun cdv A outer s H vs Q E hr h => ?_)
  · obtain ⟨a, n, rfl, _⟩ := h
    rfl
  · obtain ⟨h, k, rfl, q⟩ := h
    refine ⟨_, pss_one (ps_ret (pe_cmpR op_eq (pe_op op_odd (pe_op op_shrNN (pv 0) (pv 1)) pe_int) pe_int (nomark _))), ?_⟩
    refine ⟨.int h, rfl, .int k, rfl, h, k, rfl, rfl, h / 2 ^ k, rfl, rfl, rfl, ?_⟩
    have e : decide (V.int ((h / 2 ^ k % 2 : Nat) : Int) = V.int 1) = h.testBit k := by
      rw [Nat.testBit_eq_decide_div_mod_eq, dec_int]
      by_cases z : h / 2 ^ k % 2 = 1
      · rw [decide_eq_true z, z]; rfl
      · rw [decide_eq_false z]
        exact beq_eq_false_iff_ne.mpr (by omega)
    show Q (.bl (decide (V.int ((h / 2 ^ k % 2 : Nat) : Int) = V.int 1))) H
    rw [e]
    exact q
/-! ### bits -/
def spBits (K : PySem.W.Frag) : Sp := fun vs H Q _ => ∃ h : Nat, vs = [.int h] ∧ h < 2 ^ 60 ∧ ∀ H' p, Same H H' → H p = none → H' p = some (.tup (nv (bl 60 h))) → Q (.ref p) H'
theorem ok_bits (F : Fun K "bits" "bits" sBits f fd) (GH : FnOk P w K mg base CX0 1 fH fdH ["hand", "k"] spHas) (kH : PySem.W.keepIn K (.ref fH) = true) (bH : Binds K fdH ["hand", "k"] []) (gH : mg "has_bit" = some (.ref fH)) (mt : mg "tuple" = none) (mr : mg "range" = none) :
    FnOk P w K mg base CX0 2 f fd ["hand"] (spBits K) := by
  refine F.ok scBits (fun vs H Q E h => ?_) (fun cdv A outer s H vs Q E hr h => ?_)
  · obtain ⟨a, rfl, _⟩ := h
    rfl
  · obtain ⟨h, rfl, h60, q⟩ := h
    refine ⟨_, pss_one (ps_ret (pe_callTy call_tuple_of (by rfl) mt (by decide +kernel) (pa_cons (pe_lc (own := [("k", 1)]) (g := gName 1) (by rfl) scBits.nd (pi_range1 (by rfl) mr (pa_cons (pe_bits (pv 0)) pa_nil))
      (blkOk_by (own := [("k", 1)]) (N := ["hand", "k"]) (sc := defScope sBits) (by decide +kernel)) (fun _ _ _ _ _ => pg_name (i := 1) scBits.nd rfl (Or.inl rfl))
      (fun _ _ _ _ _ => pts_one (pt_val (pe_call GH (hr.mono (by decide)) (by rfl) gH kH bH .nil pass0 (pa_cons (pv 0) (pa_cons (pv 1) pa_nil))))) (fun _ _ _ _ _ => pv 1)) pa_nil))), ?_⟩
    have hn : Builtin.Int.intBits (h : Int) ≤ 60 := intBits_le60 h60
    have hb := intBits_nat (h := h)
    refine ⟨.int h, rfl, h, rfl, _, rfl, (by omega), (by omega), fun D nD => lc_range (lo := 0) (n := Builtin.Int.intBits (h : Int)) (fun i H' => Same H H' ∧ H' D = some (.lst (nv (bl i h)))) ⟨same_new (Same.refl H) nD, upd_same⟩ ?_ ?_⟩
    · rintro i H1 hi ⟨sm, eD⟩
      refine ⟨rfl, .int h, rfl, .int (0 + i), rfl, h, i, by rw [Int.zero_add]; rfl, _, rfl, ite2 (fun e => ?_) (fun e => ?_)⟩
      · refine ⟨_, rfl, _, eD, ?_, fun b o z => ?_, ?_⟩
        · rw [nv_len]
          exact Nat.lt_of_le_of_lt (Nat.le_trans (bl_len i h) (by omega : i ≤ 60)) (by decide)
        · have e1 := sm b o z
          rw [upd_ne (ne_of_none z nD)]
          exact e1
        · rw [upd_same, bl_succ, e, Int.zero_add]
          simp [nv]
      · refine ⟨sm, ?_⟩
        rw [eD, bl_succ]
        simp [e]
    · rintro H1 ⟨sm, eD⟩
      refine ⟨D, _, rfl, .inl ⟨.inl (.inl eD), fun p np => ?_⟩⟩
      refine q _ p (same_new sm np) (sm.free np) ?_
      rw [upd_same, bl_eq hb h60]
/-! ### arc -/
theorem scArc : FnScope ["q", "j", "k"] ["q", "j", "k"] (defScope sArc) := ⟨rfl, rfl, rfl, by decide +kernel, rfl, by decide +kernel, by decide +kernel⟩
theorem scRound : FnScope ["q", "hand", "j"] ["q", "hand", "j"] (defScope sRound) := ⟨rfl, rfl, rfl, by decide +kernel, rfl, by decide +kernel, by decide +kernel⟩
def spArc : Sp := fun vs H Q _ => ∃ q j k : Int, vs = [.int q, .int j, .int k] ∧ 0 < q ∧ Q (.int ((k - j) % q)) H
theorem ok_arc (F : Fun K "arc" "arc" sArc f fd) : FnOk P w K mg base CX0 (k + 1) f fd ["q", "j", "k"] spArc := by
  refine F.ok scArc (fun vs H Q E h => ?_) (fun cdv A outer s H vs Q E hr h => ?_)
  · obtain ⟨a, b, c, rfl, _⟩ := h
    rfl
  · obtain ⟨q, j, k, rfl, hq, h⟩ := h
    refine ⟨_, pss_one (ps_ret (pe_op op_mod (pe_op op_sub (pv 2) (pv 1)) (pv 0))), ?_⟩
    exact ⟨.int k, rfl, .int j, rfl, _, _, rfl, rfl, .int q, rfl, _, _, rfl, rfl, hq, h⟩
/-! ### round_bits -/
open LamX NdefX in
def spRound (K : PySem.W.Frag) (Pt : Addr) : Sp := fun vs H Q _ => ∃ q h j : Nat, vs = [.int q, .int h, .int j] ∧ 0 < q ∧ q ≤ 60 ∧ h < 2 ^ q ∧ Tabs [(Pt, lamNm)] H ∧ ∀ H' p, ExtN H H' → Tabs [(Pt, lamNm)] H' → H' p = some (.tup (nv (rb q h j))) → Q (.ref p) H'
theorem cast_pairs : ∀ {ns : List Int} {ks : List Nat}, ns.Perm (ks.map fun (n : Nat) => (n : Int)) → ∃ rs : List Nat, ns = rs.map (fun (n : Nat) => (n : Int)) ∧ rs.Perm ks := fun {ns ks} hp => by
  refine ⟨ns.map Int.toNat, ?_, ?_⟩
  · rw [List.map_map]
    refine ((List.map_id ns).symm.trans (List.map_congr_left fun x hx => ?_))
    obtain ⟨n, _, rfl⟩ := List.mem_map.mp (hp.mem_iff.mp hx)
    rfl
  · have h := hp.map Int.toNat
    rw [List.map_map] at h
    have e : ks.map (Int.toNat ∘ fun (n : Nat) => (n : Int)) = ks := (List.map_congr_left fun x _ => rfl).trans (List.map_id ks)
    rw [e] at h
    exact h
open LamX NdefX in
theorem ok_round {c Pt : Addr} (F : FunT K "round_bits" sRound f fd c) (TB : TabB base mg c Pt) (GA : FnOk P w K mg base CX0 1 fA fdA ["q", "j", "k"] spArc) (kA : PySem.W.keepIn K (.ref fA) = true) (bA : Binds K fdA ["q", "j", "k"] []) (gA : mg "arc" = some (.ref fA))
    (GB : FnOk P w K mg base CX0 2 fB fdB ["hand"] (spBits K)) (kB : PySem.W.keepIn K (.ref fB) = true) (bB : Binds K fdB ["hand"] []) (gB : mg "bits" = some (.ref fB)) (mt : mg "tuple" = none) (ms : mg "sorted" = none) :
    FnOk P w K mg base CX0 5 f fd ["q", "hand", "j"] (spRound K Pt) := by
  refine F.ok scRound (fun vs H Q E h => ?_) (fun A outer s H vs Q E hr h => ?_)
  · obtain ⟨a, b, c, rfl, _⟩ := h
    rfl
  · obtain ⟨q, h, j, rfl, hq, hq6, hh, hT, fin⟩ := h
    have h60 : h < 2 ^ 60 := Nat.lt_of_lt_of_le hh (Nat.pow_le_pow_right (by decide) hq6)
    refine ⟨_, pss_one (ps_ret (pe_callTy call_tuple_of (by rfl) mt (by decide +kernel) (pa_cons (pe_sortLam (T := [(Pt, lamNm)]) (x := "k") (fr := ["q", "j"]) (N := ["k", "q", "j"]) (js := [0, 2]) (k := 1)
      (pa_cons (pe_call GB (hr.mono (by decide)) (by rfl) gB kB bB .nil pass0 (pa_cons (pv 1) pa_nil)) pa_nil) (by rfl) ms TB rfl (List.mem_singleton.mpr rfl) (fun p hp _ => by rw [List.mem_singleton.mp hp]; rfl) rfl
      (nscope_by (by decide +kernel)) (ndef_free (sc := defScope sRound) (fr := ["q", "j"]) (by decide +kernel)) (fun ok => Caps.made ok (ndef_free (sc := defScope sRound) (fr := ["q", "j"]) (by decide +kernel)) (ndef_fr (fr := ["q", "j"]) (sc := defScope sRound) (by decide +kernel)) rfl) (fun _ _ _ _ _ _ => rfl) hr
      (fun f c' A outer z G hr2 => pe_call GA hr2 (by rfl) gA kA bA .nil pass0 (pa_cons (pv 1) (pa_cons (pv 2) (pa_cons (pv 0) pa_nil))))) pa_nil))), ?_⟩
    refine ⟨.int h, rfl, h, rfl, h60, fun H1 b s1 nb hb => ?_⟩
    have e0 : nv (bl 60 h) = ((bl 60 h).map fun (n : Nat) => (n : Int)).map V.int := by
      rw [List.map_map]
      rfl
    refine ⟨b, (bl 60 h).map fun (n : Nat) => (n : Int), fun n => (n - (j : Int)) % (q : Int), rfl, by rw [← e0]; exact .inl (.inl hb), hT.ext s1, fun n hn Q' hQ => ?_, fun H2 p ns' eN T2 np hp hs => ?_⟩
    · exact ⟨.int q, rfl, .int j, rfl, .int n, rfl, q, j, n, rfl, by omega, hQ⟩
    · obtain ⟨rs, rfl, hperm⟩ := cast_pairs hp
      have e1 : rs = rb q h j := rb_eq hq6 hh hperm (by rw [List.pairwise_map] at hs; exact hs)
      refine ⟨p, _, rfl, .inl ⟨.inl (.inl upd_same), fun l nl => ?_⟩⟩
      have x2 : ExtN H (upd H2 p (.lst ((rs.map fun (n : Nat) => (n : Int)).map V.int))) := ext_new ((ExtN.of s1).trans eN) np
      refine fin _ l (ext_new x2 nl) (tabs_new (tabs_new T2 np) nl) ?_
      rw [upd_same, List.map_map, e1]
      rfl
end
section
variable {P : Program} {w : World} {K : PySem.W.Frag} {mg : Str → Option Value} {base : Heap} {f fR : Addr} {fd fdR : FuncData}
open LamX NdefX
/-! ### last_bit, next_bit -/
def oV : Option Nat → V
  | none => .non
  | some n => .int (n : Int)
theorem rb_ne {q h j : Nat} (h0 : h ≠ 0) (hh : h < 2 ^ q) : rb q h j ≠ [] := fun e => by
  obtain ⟨i, hi⟩ := Nat.exists_testBit_of_ne_zero h0
  have hiq : i < q := Nat.lt_of_not_le fun l => by
    rw [Nat.testBit_lt_two_pow (Nat.lt_of_lt_of_le hh (Nat.pow_le_pow_right (by decide) l))] at hi
    cases hi
  have : i ∈ rb q h j := mem_rb.mpr ⟨hiq, hi⟩
  rw [e] at this
  exact absurd this List.not_mem_nil
theorem rb_zero (q j : Nat) : rb q 0 j = [] := by
  unfold rb
  simp
theorem scLast : FnScope ["q", "hand", "j"] ["q", "hand", "j"] (defScope sLast) := ⟨rfl, rfl, rfl, by decide +kernel, rfl, by decide +kernel, by decide +kernel⟩
def spLast (K : PySem.W.Frag) (Pt : Addr) : Sp := fun vs H Q _ => ∃ q h j : Nat, vs = [.int q, .int h, .int j] ∧ 0 < q ∧ q ≤ 60 ∧ h < 2 ^ q ∧ Tabs [(Pt, lamNm)] H ∧ ∀ H', ExtN H H' → Tabs [(Pt, lamNm)] H' → Q (oV (rb q h j).getLast?) H'
theorem ok_last {Pt : Addr} (F : Fun K "last_bit" "last_bit" sLast f fd) (GR : FnOk P w K mg base CX0 5 fR fdR ["q", "hand", "j"] (spRound K Pt)) (kR : PySem.W.keepIn K (.ref fR) = true) (bR : Binds K fdR ["q", "hand", "j"] []) (gR : mg "round_bits" = some (.ref fR)) :
    FnOk P w K mg base CX0 6 f fd ["q", "hand", "j"] (spLast K Pt) := by
  refine F.ok scLast (fun vs H Q E h => ?_) (fun cdv A outer s H vs Q E hr h => ?_)
  · obtain ⟨a, b, c, rfl, _⟩ := h
    rfl
  · obtain ⟨q, h, j, rfl, hq, hq6, hh, hT, fin⟩ := h
    refine ⟨_, pss_cons (ps_if (pt_cmpR op_eq (pv 1) pe_int (nomark _)) (pss_one (ps_ret pe_non)) pss_nil)
      (pss_one (ps_ret (pe_ix ix_tup (pe_call GR (hr.mono (by decide)) (by rfl) gR kR bR .nil pass0 (pa_cons (pv 0) (pa_cons (pv 1) (pa_cons (pv 2) pa_nil)))) (pe_un un_neg pe_int) (fun _ _ => rfl)))), ?_⟩
    refine ⟨.int h, rfl, rfl, _, rfl, ite2 (fun e => ?_) (fun e => ?_)⟩
    · have e1 : (h : Int) = 0 := V.int.inj (of_decide_eq_true e)
      have e2 : h = 0 := by omega
      subst e2
      have := fin H (ExtN.refl H) hT
      rw [rb_zero] at this
      exact this
    · have e1 : h ≠ 0 := fun z => e (decide_eq_true (by rw [z]; rfl))
      refine ⟨.int q, rfl, .int h, rfl, .int j, rfl, q, h, j, rfl, hq, hq6, hh, hT, fun H1 p x1 t1 hp => ?_⟩
      have hne := rb_ne (j := j) e1 hh
      have ez : rb q h j = (rb q h j).dropLast ++ [(rb q h j).getLast hne] := (List.dropLast_concat_getLast hne).symm
      have ev : nv (rb q h j) = nv (rb q h j).dropLast ++ [.int ((rb q h j).getLast hne : Nat)] := by
        conv => lhs; rw [ez]
        unfold nv
        rw [List.map_append]
        rfl
      refine ⟨1, rfl, p, nv (rb q h j), -1, .int ((rb q h j).getLast hne : Nat), rfl, rfl, .inl (.inl hp), by rw [ev]; exact atI_last _ _, ?_⟩
      have := fin H1 x1 t1
      rw [List.getLast?_eq_getLast hne] at this
      exact this
theorem scNext : FnScope ["q", "hand", "k"] ["q", "hand", "k"] (defScope sNext) := ⟨rfl, rfl, rfl, by decide +kernel, rfl, by decide +kernel, by decide +kernel⟩
def spNext (K : PySem.W.Frag) (Pt : Addr) : Sp := fun vs H Q _ => ∃ q h k : Nat, vs = [.int q, .int h, .int k] ∧ 0 < q ∧ q ≤ 60 ∧ h < 2 ^ q ∧ Tabs [(Pt, lamNm)] H ∧ ∀ H', ExtN H H' → Tabs [(Pt, lamNm)] H' → Q (oV (rb q h (k + 1)).head?) H'
theorem ok_next {Pt : Addr} (F : Fun K "next_bit" "next_bit" sNext f fd) (GR : FnOk P w K mg base CX0 5 fR fdR ["q", "hand", "j"] (spRound K Pt)) (kR : PySem.W.keepIn K (.ref fR) = true) (bR : Binds K fdR ["q", "hand", "j"] []) (gR : mg "round_bits" = some (.ref fR)) :
    FnOk P w K mg base CX0 6 f fd ["q", "hand", "k"] (spNext K Pt) := by
  refine F.ok scNext (fun vs H Q E h => ?_) (fun cdv A outer s H vs Q E hr h => ?_)
  · obtain ⟨a, b, c, rfl, _⟩ := h
    rfl
  · obtain ⟨q, h, k, rfl, hq, hq6, hh, hT, fin⟩ := h
    refine ⟨_, pss_cons (ps_if (pt_cmpR op_eq (pv 1) pe_int (nomark _)) (pss_one (ps_ret pe_non)) pss_nil)
      (pss_one (ps_ret (pe_ix ix_tup (pe_call GR (hr.mono (by decide)) (by rfl) gR kR bR .nil pass0 (pa_cons (pv 0) (pa_cons (pv 1) (pa_cons (pe_op op_addN (pv 2) pe_int) pa_nil)))) pe_int (fun _ _ => rfl)))), ?_⟩
    refine ⟨.int h, rfl, rfl, _, rfl, ite2 (fun e => ?_) (fun e => ?_)⟩
    · have e1 : (h : Int) = 0 := V.int.inj (of_decide_eq_true e)
      have e2 : h = 0 := by omega
      subst e2
      have := fin H (ExtN.refl H) hT
      rw [rb_zero] at this
      exact this
    · have e1 : h ≠ 0 := fun z => e (decide_eq_true (by rw [z]; rfl))
      refine ⟨.int q, rfl, .int h, rfl, .int k, rfl, k, 1, rfl, rfl, q, h, k + 1, rfl, hq, hq6, hh, hT, fun H1 p x1 t1 hp => ?_⟩
      have hne := rb_ne (j := k + 1) e1 hh
      obtain ⟨z, r, ez⟩ : ∃ z r, rb q h (k + 1) = z :: r := by
        cases e : rb q h (k + 1) with
        | nil => exact absurd e hne
        | cons z r => exact ⟨z, r, rfl⟩
      refine ⟨p, nv (rb q h (k + 1)), 0, .int (z : Nat), rfl, rfl, .inl (.inl hp), by rw [ez]; exact atI_nat (j := 0) rfl, ?_⟩
      have := fin H1 x1 t1
      rw [ez] at this
      exact this
end
/-! ### across -/
section
variable {P : Program} {w : World} {K : PySem.W.Frag} {mg : Str → Option Value} {base : Heap} {f fH fR fX fC : Addr} {fd fdH fdR fdX fdC : FuncData} {k : Nat} {Pt : Addr}
open LamX NdefX
theorem scAcross : FnScope ["hand", "k"] ["hand", "k"] (defScope sAcross) := ⟨rfl, rfl, rfl, by decide +kernel, rfl, by decide +kernel, by decide +kernel⟩
def spAcross : Sp := fun vs H Q _ => ∃ h k : Nat, vs = [.int h, .int k] ∧ k ≤ 1000 ∧ Q (.int ((h ^^^ 2 ^ k : Nat) : Int)) H
theorem ok_across (F : Fun K "across" "across" sAcross f fd) : FnOk P w K mg base CX0 (k + 1) f fd ["hand", "k"] spAcross := by
  refine F.ok scAcross (fun vs H Q E h => ?_) (fun cdv A outer s H vs Q E hr h => ?_)
  · obtain ⟨a, n, rfl, _⟩ := h
    rfl
  · obtain ⟨h, k, rfl, hk, q⟩ := h
    exact ⟨_, pss_one (ps_ret (pe_op op_xorN (pv 0) (pe_op op_bit pe_int (pv 1)))), .int h, rfl, .int k, rfl, k, rfl, rfl, by omega, h, 2 ^ k, rfl, rfl, q⟩
end
/-! ### tree_at, due -/
theorem scTree : FnScope ["q", "hand", "t", "source", "k", "apart"] ["q", "hand", "t", "source"] (defScope sTree) := ⟨rfl, rfl, rfl, by decide +kernel, rfl, by decide +kernel, by decide +kernel⟩
section
variable {P : Program} {w : World} {K : PySem.W.Frag} {mg : Str → Option Value} {base : Heap} {f fH fN fA fTr fX fDu : Addr} {fd fdH fdN fdA fdTr fdX fdDu : FuncData} {k : Nat} {Pt : Addr}
open LamX NdefX
def spTree (Pt : Addr) : Sp := fun vs H Q _ => ∃ q h t s : Nat, vs = [.int q, .int h, .int t, .int s] ∧ 0 < q ∧ q ≤ 60 ∧ h < 2 ^ q ∧ s < 2 ^ q ∧ Tabs [(Pt, lamNm)] H ∧ ∀ H', ExtN H H' → Tabs [(Pt, lamNm)] H' → Q (.int (trF q (h ^^^ s) (t % q) : Nat)) H'
theorem ok_tree (F : FunS K "tree_at" sTree f fd) (GH : FnOk P w K mg base CX0 1 fH fdH ["hand", "k"] spHas) (kH : PySem.W.keepIn K (.ref fH) = true) (bH : Binds K fdH ["hand", "k"] []) (gH : mg "has_bit" = some (.ref fH))
    (GN : FnOk P w K mg base CX0 6 fN fdN ["q", "hand", "k"] (spNext K Pt)) (kN : PySem.W.keepIn K (.ref fN) = true) (bN : Binds K fdN ["q", "hand", "k"] []) (gN : mg "next_bit" = some (.ref fN)) : FnOk P w K mg base CX0 7 f fd ["q", "hand", "t", "source"] (spTree Pt) := by
  refine F.go scTree (fun vs H Q E h => ?_) (fun cdv A outer s H vs Q E hr h => ?_)
  · obtain ⟨a, b, c, d, rfl, _⟩ := h
    rfl
  · obtain ⟨q, h, t, s0, rfl, hq, hq6, hh, hs, hT, fin⟩ := h
    refine ⟨_, pss_cons (ps_set (i := 4) scTree.nd rfl (.inl rfl) (pe_op op_modNN (pv 2) (pv 0)))
      (pss_cons (ps_set (i := 5) scTree.nd rfl (.inl rfl) (pe_op op_xorN (pv 1) (pv 3)))
      (pss_cons (ps_if (pt_val (pe_call GH (hr.mono (by decide)) (by rfl) gH kH bH .nil pass0 (pa_cons (pv 5) (pa_cons (pv 4) pa_nil)))) (pss_one (ps_ret (pe_call GN (hr.mono (by decide)) (by rfl) gN kN bN .nil pass0 (pa_cons (pv 0) (pa_cons (pv 5) (pa_cons (pv 4) pa_nil)))))) pss_nil)
      (pss_one (ps_ret (pv 4))))), ?_⟩
    have hd : h ^^^ s0 < 2 ^ q := Nat.xor_lt_two_pow hh hs
    have hk : t % q < q := Nat.mod_lt _ hq
    refine ⟨.int t, rfl, .int q, rfl, t, q, rfl, rfl, hq, .int h, rfl, .int s0, rfl, h, s0, rfl, rfl, ?_⟩
    generalize h ^^^ s0 = d at *
    generalize t % q = k at *
    refine ⟨.int d, rfl, .int k, rfl, d, k, rfl, _, rfl, ite2 (fun e => ?_) (fun e => ?_)⟩
    · refine ⟨.int q, rfl, .int d, rfl, .int k, rfl, q, d, k, rfl, hq, hq6, hd, hT, fun H1 x1 t1 => ?_⟩
      rw [trF_head hk e]
      exact fin H1 x1 t1
    · have e2 : d.testBit k = false := by
        cases z : d.testBit k with
        | false => rfl
        | true => exact absurd z e
      have := fin H (ExtN.refl H) hT
      rw [trF_out e2] at this
      exact ⟨.int k, rfl, this⟩
theorem scLat : FnScope ["q", "hand", "t", "source", "k"] ["q", "hand", "t", "source"] (defScope sLat) := ⟨rfl, rfl, rfl, by decide +kernel, rfl, by decide +kernel, by decide +kernel⟩
theorem scDue : FnScope ["q", "m", "hand", "t", "source", "letter"] ["q", "m", "hand", "t", "source"] (defScope sDue) := ⟨rfl, rfl, rfl, by decide +kernel, rfl, by decide +kernel, by decide +kernel⟩
def spLat (Pt : Addr) : Sp := fun vs H Q _ => ∃ q h t s : Nat, vs = [.int q, .int h, .int t, .int s] ∧ 0 < q ∧ q ≤ 60 ∧ h < 2 ^ q ∧ s < 2 ^ q ∧ Tabs [(Pt, lamNm)] H ∧ ∀ H', ExtN H H' → Tabs [(Pt, lamNm)] H' → Q (.int ((t : Int) - (ltF q (h ^^^ s) (t % q) : Nat))) H'
def dueV (q m d t : Nat) : V := if t < ltF q d (t % q) then .non else .int ((min (t - ltF q d (t % q)) (m - 1) : Nat) : Int)
def spDue (Pt : Addr) : Sp := fun vs H Q _ => ∃ q m h t s : Nat, vs = [.int q, .int m, .int h, .int t, .int s] ∧ 0 < q ∧ q ≤ 60 ∧ 0 < m ∧ h < 2 ^ q ∧ s < 2 ^ q ∧ Tabs [(Pt, lamNm)] H ∧ ∀ H', ExtN H H' → Tabs [(Pt, lamNm)] H' → Q (dueV q m (h ^^^ s) t) H'
theorem ok_lat (F : Fun K "letter_at" "letter_at" sLat f fd) (GH : FnOk P w K mg base CX0 1 fH fdH ["hand", "k"] spHas) (kH : PySem.W.keepIn K (.ref fH) = true) (bH : Binds K fdH ["hand", "k"] []) (gH : mg "has_bit" = some (.ref fH))
    (GA : FnOk P w K mg base CX0 1 fA fdA ["q", "j", "k"] spArc) (kA : PySem.W.keepIn K (.ref fA) = true) (bA : Binds K fdA ["q", "j", "k"] []) (gA : mg "arc" = some (.ref fA))
    (GTr : FnOk P w K mg base CX0 7 fTr fdTr ["q", "hand", "t", "source"] (spTree Pt)) (kTr : PySem.W.keepIn K (.ref fTr) = true) (qTr : KBinds K fdTr ["q", "hand", "t", "source"] ["source"] g3 g3) (gTr : mg "tree_at" = some (.ref fTr)) :
    FnOk P w K mg base CX0 8 f fd ["q", "hand", "t", "source"] (spLat Pt) := by
  refine F.ok scLat (fun vs H Q E h => ?_) (fun cdv A outer s H vs Q E hr h => ?_)
  · obtain ⟨a, b, c, d, rfl, _⟩ := h
    rfl
  · obtain ⟨q, h, t, s0, rfl, hq, hq6, hh, hs, hT, fin⟩ := h
    refine ⟨_, pss_cons (ps_set (i := 4) scLat.nd rfl (.inl rfl) (pe_op op_modNN (pv 2) (pv 0)))
      (pss_cons (ps_if (pt_val (pe_call GH (hr.mono (by decide)) (by rfl) gH kH bH .nil pass0 (pa_cons (pe_op op_xorN (pv 1) (pv 3)) (pa_cons (pv 4) pa_nil))))
        (pss_one (ps_ret (pe_op op_sub (pv 2) (pe_call GA (hr.mono (by decide)) (by rfl) gA kA bA .nil pass0 (pa_cons (pv 0) (pa_cons (pe_callK GTr (hr.mono (by decide)) (by rfl) gTr kTr qTr pass0 (pa_cons (pv 0) (pa_cons (pv 1) (pa_cons (pv 2) pa_nil))) (pk_cons (pv 3) pk_nil)) (pa_cons (pv 4) pa_nil)))))))
        pss_nil)
      (pss_one (ps_ret (pe_op op_sub (pv 2) (pv 0))))), ?_⟩
    have hd : h ^^^ s0 < 2 ^ q := Nat.xor_lt_two_pow hh hs
    have hk : t % q < q := Nat.mod_lt _ hq
    refine ⟨.int t, rfl, .int q, rfl, t, q, rfl, rfl, hq, .int h, rfl, .int s0, rfl, h, s0, rfl, rfl, .int (t % q : Nat), rfl, h ^^^ s0, t % q, rfl, _, rfl, ?_⟩
    refine ite2 (fun e => ?_) (fun e => ?_)
    · refine ⟨.int t, rfl, .int q, rfl, .int q, rfl, .int h, rfl, .int t, rfl, .int s0, rfl, q, h, t, s0, rfl, hq, hq6, hh, hs, hT, fun H1 x1 t1 => ?_⟩
      refine ⟨.int (t % q : Nat), rfl, q, (trF q (h ^^^ s0) (t % q) : Nat), (t % q : Nat), rfl, by omega, _, _, rfl, rfl, ?_⟩
      have := fin H1 x1 t1
      rw [ltF_in hq e] at this
      exact this
    · have e2 : (h ^^^ s0).testBit (t % q) = false := by
        cases z : (h ^^^ s0).testBit (t % q) with
        | false => rfl
        | true => exact absurd z e
      have := fin H (ExtN.refl H) hT
      rw [ltF_out e2] at this
      exact ⟨.int t, rfl, .int q, rfl, _, _, rfl, rfl, this⟩
theorem ok_due (F : Fun K "due" "due" sDue f fd) (GLt : FnOk P w K mg base CX0 8 fH fdH ["q", "hand", "t", "source"] (spLat Pt)) (kLt : PySem.W.keepIn K (.ref fH) = true) (bLt : Binds K fdH ["q", "hand", "t", "source"] []) (gLt : mg "letter_at" = some (.ref fH)) (mn : mg "min" = none) :
    FnOk P w K mg base CX0 9 f fd ["q", "m", "hand", "t", "source"] (spDue Pt) := by
  refine F.ok scDue (fun vs H Q E h => ?_) (fun cdv A outer s H vs Q E hr h => ?_)
  · obtain ⟨a, b, c, d, e, rfl, _⟩ := h
    rfl
  · obtain ⟨q, m, h, t, s0, rfl, hq, hq6, hm, hh, hs, hT, fin⟩ := h
    refine ⟨_, pss_cons (ps_set (i := 5) scDue.nd rfl (.inl rfl) (pe_call GLt (hr.mono (by decide)) (by rfl) gLt kLt bLt .nil pass0 (pa_cons (pv 0) (pa_cons (pv 2) (pa_cons (pv 3) (pa_cons (pv 4) pa_nil))))))
      (pss_cons (ps_if (pt_cmpR op_lt (pv 5) pe_int (nomark _)) (pss_one (ps_ret pe_non)) pss_nil)
      (pss_one (ps_ret (pe_callB (call_min2 rfl) (by rfl) mn (by decide +kernel) (pa_cons (pv 5) (pa_cons (pe_op op_subN (pv 1) pe_int) pa_nil)))))), ?_⟩
    refine ⟨.int q, rfl, .int h, rfl, .int t, rfl, .int s0, rfl, q, h, t, s0, rfl, hq, hq6, hh, hs, hT, fun H1 x1 t1 => ?_⟩
    have := fin H1 x1 t1
    unfold dueV at this
    refine ⟨_, rfl, _, _, rfl, rfl, _, rfl, ite2 (fun z => ?_) (fun z => ?_)⟩
    · have z' := of_decide_eq_true z
      rw [if_pos (by omega)] at this
      exact this
    · have z' : ¬ _ := fun y => z (decide_eq_true y)
      rw [if_neg (by omega)] at this
      refine ⟨_, rfl, .int m, rfl, m, 1, rfl, rfl, hm, _, _, rfl, ?_⟩
      have e : (if ((m - 1 : Nat) : Int) < (t : Int) - (ltF q (h ^^^ s0) (t % q) : Nat) then ((m - 1 : Nat) : Int) else (t : Int) - (ltF q (h ^^^ s0) (t % q) : Nat)) = ((min (t - ltF q (h ^^^ s0) (t % q)) (m - 1) : Nat) : Int) := by
        split <;> omega
      rw [e]
      exact this
theorem scHeard : FnScope ["q", "m", "hand", "t", "source", "letter"] ["q", "m", "hand", "t", "source"] (defScope sHeard) := ⟨rfl, rfl, rfl, by decide +kernel, rfl, by decide +kernel, by decide +kernel⟩
def spHeard (Pt : Addr) : Sp := fun vs H Q _ => ∃ q m h t s : Nat, vs = [.int q, .int m, .int h, .int t, .int s] ∧ 0 < q ∧ q ≤ 60 ∧ 0 < m ∧ h < 2 ^ q ∧ s < 2 ^ q ∧ Tabs [(Pt, lamNm)] H ∧
  (t < ltF q (h ^^^ s) (t % q) → ∀ H', ExtN H H' → Tabs [(Pt, lamNm)] H' → Q .non H') ∧
  (¬ t < ltF q (h ^^^ s) (t % q) → ∀ H' p, ExtN H H' → Tabs [(Pt, lamNm)] H' → H' p = some (.tup (nv [h ^^^ 2 ^ (t % q), min (t - ltF q (h ^^^ s) (t % q)) (m - 1)])) → Q (.ref p) H')
theorem ok_heard (F : FunS K "heard" sHeard f fd) (GDu : FnOk P w K mg base CX0 9 fDu fdDu ["q", "m", "hand", "t", "source"] (spDue Pt)) (kDu : PySem.W.keepIn K (.ref fDu) = true) (bDu : Binds K fdDu ["q", "m", "hand", "t", "source"] []) (gDu : mg "due" = some (.ref fDu))
    (GX : FnOk P w K mg base CX0 1 fX fdX ["hand", "k"] spAcross) (kX : PySem.W.keepIn K (.ref fX) = true) (bX : Binds K fdX ["hand", "k"] []) (gX : mg "across" = some (.ref fX)) : FnOk P w K mg base CX0 10 f fd ["q", "m", "hand", "t", "source"] (spHeard Pt) := by
  refine F.go scHeard (fun vs H Q E h => ?_) (fun cdv A outer s H vs Q E hr h => ?_)
  · obtain ⟨a, b, c, d, e, rfl, _⟩ := h
    rfl
  · obtain ⟨q, m, h, t, s0, rfl, hq, hq6, hm, hh, hs, hT, f1, f2⟩ := h
    refine ⟨_, pss_cons (ps_set (i := 5) scHeard.nd rfl (.inl rfl) (pe_call GDu (hr.mono (by decide)) (by rfl) gDu kDu bDu .nil pass0 (pa_cons (pv 0) (pa_cons (pv 1) (pa_cons (pv 2) (pa_cons (pv 3) (pa_cons (pv 4) pa_nil)))))))
      (pss_cons (ps_if (pt_cmp (pc_isN (pv 5))) (pss_one (ps_ret pe_non)) pss_nil)
      (pss_one (ps_ret (pe_tup (pa_cons (pe_call GX (hr.mono (by decide)) (by rfl) gX kX bX .nil pass0 (pa_cons (pv 2) (pa_cons (pe_op op_modNN (pv 3) (pv 0)) pa_nil))) (pa_cons (pv 5) pa_nil)))))), ?_⟩
    have hk : t % q < q := Nat.mod_lt _ hq
    refine ⟨.int q, rfl, .int m, rfl, .int h, rfl, .int t, rfl, .int s0, rfl, q, m, h, t, s0, rfl, hq, hq6, hm, hh, hs, hT, fun H1 x1 t1 => ?_⟩
    by_cases e : t < ltF q (h ^^^ s0) (t % q)
    · have e2 : dueV q m (h ^^^ s0) t = .non := by unfold dueV; rw [if_pos e]
      rw [e2]
      exact ⟨_, rfl, _, rfl, iteT (f1 e H1 x1 t1)⟩
    · have e2 : dueV q m (h ^^^ s0) t = .int ((min (t - ltF q (h ^^^ s0) (t % q)) (m - 1) : Nat) : Int) := by unfold dueV; rw [if_neg e]
      rw [e2]
      refine ⟨_, rfl, _, rfl, iteF ?_⟩
      refine ⟨.int h, rfl, .int t, rfl, .int q, rfl, t, q, rfl, rfl, hq, h, t % q, rfl, by omega, _, rfl, (by show 2 ≤ sizeLine; decide), fun p np => ?_⟩
      exact f2 e _ p (ext_new x1 np) (tabs_new t1 np) (by rw [upd_same]; rfl)
end
/-! ### delay, hearers -/
section
variable {P : Program} {w : World} {K : PySem.W.Frag} {mg : Str → Option Value} {base : Heap} {f fH fA fL fX fD : Addr} {fd fdH fdA fdL fdX fdD : FuncData} {k : Nat} {Pt : Addr}
open LamX NdefX
theorem scDelay : FnScope ["q", "hand", "j", "source", "apart"] ["q", "hand", "j", "source"] (defScope sDelay) := ⟨rfl, rfl, rfl, by decide +kernel, rfl, by decide +kernel, by decide +kernel⟩
def spDelay (K : PySem.W.Frag) (Pt : Addr) : Sp := fun vs H Q _ => ∃ q h j s : Nat, vs = [.int q, .int h, .int j, .int s] ∧ 0 < q ∧ q ≤ 60 ∧ h < 2 ^ q ∧ s < 2 ^ q ∧ j < q ∧ Tabs [(Pt, lamNm)] H ∧ ∀ (r : Nat) H', ExtN H H' → Tabs [(Pt, lamNm)] H' →
  ((h ^^^ s).testBit j = true → ∃ l, (rb q (h ^^^ s) j).getLast? = some l ∧ ar q j l = (r : Int)) → ((h ^^^ s).testBit j = false → r = q) → Q (.int r) H'
theorem ok_delay (F : FunS K "delay" sDelay f fd) (GH : FnOk P w K mg base CX0 1 fH fdH ["hand", "k"] spHas) (kH : PySem.W.keepIn K (.ref fH) = true) (bH : Binds K fdH ["hand", "k"] []) (gH : mg "has_bit" = some (.ref fH))
    (GA : FnOk P w K mg base CX0 1 fA fdA ["q", "j", "k"] spArc) (kA : PySem.W.keepIn K (.ref fA) = true) (bA : Binds K fdA ["q", "j", "k"] []) (gA : mg "arc" = some (.ref fA))
    (GL : FnOk P w K mg base CX0 6 fL fdL ["q", "hand", "j"] (spLast K Pt)) (kL : PySem.W.keepIn K (.ref fL) = true) (bL : Binds K fdL ["q", "hand", "j"] []) (gL : mg "last_bit" = some (.ref fL)) :
    FnOk P w K mg base CX0 7 f fd ["q", "hand", "j", "source"] (spDelay K Pt) := by
  refine FunS.go F scDelay (fun vs H Q E h => ?_) (fun cdv A outer s H vs Q E hr h => ?_)
  · obtain ⟨a, b, c, d, rfl, _⟩ := h
    rfl
  · obtain ⟨q, h, j, s0, rfl, hq, hq6, hh, hs, hj, hT, fin⟩ := h
    refine ⟨_, pss_cons (ps_set (i := 4) scDelay.nd rfl (.inl rfl) (pe_op op_xorN (pv 1) (pv 3)))
      (pss_cons (ps_if (pt_val (pe_call GH (hr.mono (by decide)) (by rfl) gH kH bH .nil pass0 (pa_cons (pv 4) (pa_cons (pv 2) pa_nil))))
        (pss_one (ps_ret (pe_call GA (hr.mono (by decide)) (by rfl) gA kA bA .nil pass0 (pa_cons (pv 0) (pa_cons (pv 2) (pa_cons (pe_call GL (hr.mono (by decide)) (by rfl) gL kL bL .nil pass0 (pa_cons (pv 0) (pa_cons (pv 4) (pa_cons (pv 2) pa_nil)))) pa_nil)))))) pss_nil)
      (pss_one (ps_ret (pv 0)))), ?_⟩
    have hd : h ^^^ s0 < 2 ^ q := Nat.xor_lt_two_pow hh hs
    refine ⟨.int h, rfl, .int s0, rfl, h, s0, rfl, rfl, .int (h ^^^ s0 : Nat), rfl, .int j, rfl, h ^^^ s0, j, rfl, _, rfl, ite2 (fun e => ?_) (fun e => ?_)⟩
    · refine ⟨.int q, rfl, .int j, rfl, .int q, rfl, .int (h ^^^ s0 : Nat), rfl, .int j, rfl, q, h ^^^ s0, j, rfl, hq, hq6, hd, hT, fun H1 x1 t1 => ?_⟩
      have hne : rb q (h ^^^ s0) j ≠ [] := fun z => by
        have : j ∈ rb q (h ^^^ s0) j := mem_rb.mpr ⟨hj, e⟩
        rw [z] at this
        exact absurd this List.not_mem_nil
      obtain ⟨r, er, hr2⟩ := nat_of (n := q) (ar_nn (q := q) (j := j) (x := (rb q (h ^^^ s0) j).getLast hne) hq) (ar_lt hq)
      rw [List.getLast?_eq_getLast hne]
      refine ⟨q, j, (rb q (h ^^^ s0) j).getLast hne, rfl, by omega, ?_⟩
      show Q (.int (ar q j ((rb q (h ^^^ s0) j).getLast hne))) H1
      rw [er]
      exact fin r H1 x1 t1 (fun _ => ⟨_, List.getLast?_eq_getLast hne, er⟩) (fun z => by rw [e] at z; cases z)
    · have e2 : (h ^^^ s0).testBit j = false := by
        cases z : (h ^^^ s0).testBit j with
        | false => rfl
        | true => exact absurd z e
      exact ⟨.int q, rfl, fin q H (ExtN.refl H) hT (fun z => by rw [e2] at z; cases z) (fun _ => rfl)⟩
end
/-! ### crossed_by, since -/
section
variable {P : Program} {w : World} {K : PySem.W.Frag} {mg : Str → Option Value} {base : Heap} {f fA fL fD fCb : Addr} {fd fdA fdL fdD fdCb : FuncData} {k : Nat} {Pt : Addr}
open LamX NdefX
theorem scCby : FnScope ["q", "some", "t", "k"] ["q", "some", "t"] (defScope sCby) := ⟨rfl, rfl, rfl, by decide +kernel, rfl, by decide +kernel, by decide +kernel⟩
def spCby (Pt : Addr) : Sp := fun vs H Q _ => ∃ q d i : Nat, vs = [.int q, .int d, .int ((i + q - 1 : Nat) : Int)] ∧ 0 < q ∧ q ≤ 60 ∧ d < 2 ^ q ∧ d ≠ 0 ∧ Tabs [(Pt, lamNm)] H ∧ ∀ H', ExtN H H' → Tabs [(Pt, lamNm)] H' → Q (.int ((i + farF q d (i % q) : Nat) : Int)) H'
theorem ok_cby (F : Fun K "crossed_by" "crossed_by" sCby f fd) (GA : FnOk P w K mg base CX0 1 fA fdA ["q", "j", "k"] spArc) (kA : PySem.W.keepIn K (.ref fA) = true) (bA : Binds K fdA ["q", "j", "k"] []) (gA : mg "arc" = some (.ref fA))
    (GL : FnOk P w K mg base CX0 6 fL fdL ["q", "hand", "j"] (spLast K Pt)) (kL : PySem.W.keepIn K (.ref fL) = true) (bL : Binds K fdL ["q", "hand", "j"] []) (gL : mg "last_bit" = some (.ref fL)) : FnOk P w K mg base CX0 7 f fd ["q", "some", "t"] (spCby Pt) := by
  refine F.ok scCby (fun vs H Q E h => ?_) (fun cdv A outer s H vs Q E hr h => ?_)
  · obtain ⟨a, b, c, rfl, _⟩ := h
    rfl
  · obtain ⟨q, d, i, rfl, hq, hq6, hd, h0, hT, fin⟩ := h
    refine ⟨_, pss_cons (ps_set (i := 3) scCby.nd rfl (.inl rfl) (pe_op op_modNN (pv 2) (pv 0)))
      (pss_one (ps_ret (pe_op op_sub (pv 2) (pe_call GA (hr.mono (by decide)) (by rfl) gA kA bA .nil pass0 (pa_cons (pv 0) (pa_cons (pe_call GL (hr.mono (by decide)) (by rfl) gL kL bL .nil pass0 (pa_cons (pv 0) (pa_cons (pv 1) (pa_cons (pe_op op_modNN (pe_op op_addN (pv 3) pe_int) (pv 0)) pa_nil)))) (pa_cons (pv 3) pa_nil))))))), ?_⟩
    have e : ((i + q - 1) % q + 1) % q = i % q := by
      rw [Nat.mod_add_mod, show i + q - 1 + 1 = i + q by omega, Nat.add_mod_right]
    refine ⟨_, rfl, .int q, rfl, i + q - 1, q, rfl, rfl, hq, _, rfl, .int q, rfl, .int q, rfl, .int d, rfl, _, rfl, (i + q - 1) % q, 1, rfl, rfl, .int q, rfl, (i + q - 1) % q + 1, q, rfl, rfl, hq, q, d, i % q, by rw [e]; rfl, hq, hq6, hd, hT, fun H1 x1 t1 => ?_⟩
    obtain ⟨L, e1, e2, _, hL, _⟩ := far_spec (j := i % q) hq hd h0
    rw [e1]
    refine ⟨_, rfl, q, (L : Nat), ((i + q - 1) % q : Nat), rfl, by omega, _, _, rfl, rfl, ?_⟩
    have e3 := far_back (i := i) hq hL
    rw [e2] at e3
    show Q (.int (((i + q - 1 : Nat) : Int) - ar q L ((i + q - 1) % q))) H1
    rw [e3]
    exact fin H1 x1 t1
theorem scSince : FnScope ["q", "m", "hand", "i", "source"] ["q", "m", "hand", "i", "source"] (defScope sSince) := ⟨rfl, rfl, rfl, by decide +kernel, rfl, by decide +kernel, by decide +kernel⟩
def spSince (Pt : Addr) : Sp := fun vs H Q _ => ∃ q m h i s : Nat, vs = [.int q, .int m, .int h, .int i, .int s] ∧ 0 < q ∧ q ≤ 60 ∧ i < m ∧ h < 2 ^ q ∧ s < 2 ^ q ∧ Tabs [(Pt, lamNm)] H ∧ ∀ H', ExtN H H' → Tabs [(Pt, lamNm)] H' → Q (if h = s then .non else .int (snF q m (h ^^^ s) i : Nat)) H'
theorem ok_since (F : FunS K "since" sSince f fd) (GCb : FnOk P w K mg base CX0 7 fCb fdCb ["q", "some", "t"] (spCby Pt)) (kCb : PySem.W.keepIn K (.ref fCb) = true) (bCb : Binds K fdCb ["q", "some", "t"] []) (gCb : mg "crossed_by" = some (.ref fCb))
    (GD : FnOk P w K mg base CX0 7 fD fdD ["q", "hand", "j", "source"] (spDelay K Pt)) (kD : PySem.W.keepIn K (.ref fD) = true) (qD : KBinds K fdD ["q", "hand", "j", "source"] ["source"] g3 g3) (gD : mg "delay" = some (.ref fD)) : FnOk P w K mg base CX0 9 f fd ["q", "m", "hand", "i", "source"] (spSince Pt) := by
  refine F.go scSince (fun vs H Q E h => ?_) (fun cdv A outer s H vs Q E hr h => ?_)
  · obtain ⟨a, b, c, d, e, rfl, _⟩ := h
    rfl
  · obtain ⟨q, m, h, i, s0, rfl, hq, hq6, hi, hh, hs, hT, fin⟩ := h
    refine ⟨_, pss_cons (ps_if (pt_cmpR op_eq (pv 2) (pv 4) (nomark _)) (pss_one (ps_ret pe_non)) pss_nil)
      (pss_cons (ps_if (pt_cmpR op_eq (pv 3) (pe_op op_subN (pv 1) pe_int) (nomark _)) (pss_one (ps_ret (pe_call GCb (hr.mono (by decide)) (by rfl) gCb kCb bCb .nil pass0 (pa_cons (pv 0) (pa_cons (pe_op op_xorN (pv 2) (pv 4)) (pa_cons (pe_op op_subN (pe_op op_addN (pv 3) (pv 0)) pe_int) pa_nil)))))) pss_nil)
      (pss_one (ps_ret (pe_op op_addN (pv 3) (pe_callK GD (hr.mono (by decide)) (by rfl) gD kD qD pass0 (pa_cons (pv 0) (pa_cons (pv 2) (pa_cons (pe_op op_modNN (pv 3) (pv 0)) pa_nil))) (pk_cons (pv 4) pk_nil)))))), ?_⟩
    have hd : h ^^^ s0 < 2 ^ q := Nat.xor_lt_two_pow hh hs
    refine ⟨.int h, rfl, .int s0, rfl, rfl, _, rfl, ite2 (fun e => ?_) (fun e => ?_)⟩
    · have e1 : h = s0 := Int.ofNat.inj (V.int.inj (of_decide_eq_true e))
      have := fin H (ExtN.refl H) hT
      rw [if_pos e1] at this
      exact this
    · have e1 : ¬ h = s0 := fun z => e (decide_eq_true (by rw [z]))
      have h0 : h ^^^ s0 ≠ 0 := fun z => e1 (by
        have z2 : h ^^^ s0 ^^^ s0 = 0 ^^^ s0 := by rw [z]
        rw [Nat.xor_assoc, Nat.xor_self, Nat.xor_zero, Nat.zero_xor] at z2
        exact z2)
      rw [if_neg e1] at fin
      refine ⟨.int i, rfl, .int m, rfl, m, 1, rfl, rfl, by omega, rfl, _, rfl, ite2 (fun z => ?_) (fun z => ?_)⟩
      · have z1 : i = m - 1 := Int.ofNat.inj (V.int.inj (of_decide_eq_true z))
        refine ⟨.int q, rfl, .int h, rfl, .int s0, rfl, h, s0, rfl, rfl, .int i, rfl, .int q, rfl, i, q, rfl, rfl, i + q, 1, rfl, rfl, by omega, q, h ^^^ s0, i, rfl, hq, hq6, hd, h0, hT, fun H1 x1 t1 => ?_⟩
        have := fin H1 x1 t1
        unfold snF at this
        rw [if_pos (by omega)] at this
        exact this
      · have z1 : ¬ i = m - 1 := fun y => z (decide_eq_true (by rw [← y]))
        refine ⟨.int i, rfl, .int q, rfl, .int h, rfl, .int i, rfl, .int q, rfl, i, q, rfl, rfl, hq, .int s0, rfl, q, h, i % q, s0, rfl, hq, hq6, hh, hs, Nat.mod_lt _ hq, hT, fun r H1 x1 t1 c1 c2 => ?_⟩
        refine ⟨i, r, rfl, rfl, ?_⟩
        have er : r = dyF q (h ^^^ s0) (i % q) := by
          unfold dyF
          cases b : (h ^^^ s0).testBit (i % q) with
          | false => exact c2 b
          | true =>
            obtain ⟨l, el, ea⟩ := c1 b
            obtain ⟨L, e3, e4, _⟩ := far_spec (j := i % q) hq hd h0
            rw [el] at e3
            have : l = L := Option.some.inj e3
            subst this
            rw [if_pos rfl]
            omega
        have := fin H1 x1 t1
        unfold snF at this
        rw [if_neg (by omega), ← er] at this
        exact this
end
/-! ### end, last_beat -/
section
variable {P : Program} {w : World} {K : PySem.W.Frag} {mg : Str → Option Value} {base : Heap} {f fSi fEn : Addr} {fd fdSi fdEn : FuncData} {k : Nat} {Pt : Addr}
open LamX NdefX
theorem scEnd : FnScope ["q", "m"] ["q", "m"] (defScope sEnd) := ⟨rfl, rfl, rfl, by decide +kernel, rfl, by decide +kernel, by decide +kernel⟩
def spEnd : Sp := fun vs H Q _ => ∃ q m : Nat, vs = [.int q, .int m] ∧ 0 < m ∧ Q (.int ((m - 1 + q : Nat) : Int)) H
theorem ok_end (F : Fun K "end" "end" sEnd f fd) : FnOk P w K mg base CX0 (k + 1) f fd ["q", "m"] spEnd := by
  refine F.ok scEnd (fun vs H Q E h => ?_) (fun cdv A outer s H vs Q E hr h => ?_)
  · obtain ⟨a, b, rfl, _⟩ := h
    rfl
  · obtain ⟨q, m, rfl, hm, fin⟩ := h
    exact ⟨_, pss_one (ps_ret (pe_op op_addN (pe_op op_subN (pv 1) pe_int) (pv 0))), .int m, rfl, m, 1, rfl, rfl, hm, .int q, rfl, m - 1, q, rfl, rfl, fin⟩
end
/-! ### back -/
section
variable {P : Program} {w : World} {K : PySem.W.Frag} {mg : Str → Option Value} {base : Heap} {f fE fTb fHd fSi fX fBt : Addr} {fd fdE fdTb fdHd fdSi fdX fdBt : FuncData} {k : Nat} {Pt : Addr}
open LamX NdefX
theorem scTb : FnScope ["q", "m", "u"] ["q", "m", "u"] (defScope sTb) := ⟨rfl, rfl, rfl, by decide +kernel, rfl, by decide +kernel, by decide +kernel⟩
def spTb : Sp := fun vs H Q _ => ∃ (q m t : Nat) (u : Int), vs = [.int q, .int m, .int u] ∧ 0 < m ∧ ((m - 1 + q : Nat) : Int) - 1 - u = (t : Int) ∧ Q (.int (t : Int)) H
theorem ok_tb (F : Fun K "turned_beat" "turned_beat" sTb f fd) (GE : FnOk P w K mg base CX0 1 fE fdE ["q", "m"] spEnd) (kE : PySem.W.keepIn K (.ref fE) = true) (bE : Binds K fdE ["q", "m"] []) (gE : mg "end" = some (.ref fE)) :
    FnOk P w K mg base CX0 2 f fd ["q", "m", "u"] spTb := by
  refine F.ok scTb (fun vs H Q E h => ?_) (fun cdv A outer s H vs Q E hr h => ?_)
  · obtain ⟨a, b, c, d, rfl, _⟩ := h
    rfl
  · obtain ⟨q, m, t, u, rfl, hm, e, fin⟩ := h
    refine ⟨_, pss_one (ps_ret (pe_op op_sub (pe_op op_sub (pe_call GE (hr.mono (by decide)) (by rfl) gE kE bE .nil pass0 (pa_cons (pv 0) (pa_cons (pv 1) pa_nil))) pe_int) (pv 2))), ?_⟩
    rw [← e] at fin
    exact ⟨.int q, rfl, .int m, rfl, q, m, rfl, hm, _, _, rfl, rfl, .int u, rfl, _, _, rfl, rfl, fin⟩
/-- the letter given back by the one that first hears it at this beat -/
def bkF (q m d t : Nat) : Option Nat := match duF q m d t with
  | none => none
  | some i => if d ≠ 0 ∧ snF q m d i = t then some i else none
theorem bk_no {q m d t : Nat} (e : duF q m d t = none) : bkF q m d t = none := by
  unfold bkF
  rw [e]
theorem bk_yes {q m d t l : Nat} (e : duF q m d t = some l) (h : d ≠ 0 ∧ snF q m d l = t) : bkF q m d t = some l := by
  unfold bkF
  rw [e]
  exact if_pos h
theorem bk_not {q m d t l : Nat} (e : duF q m d t = some l) (h : ¬ (d ≠ 0 ∧ snF q m d l = t)) : bkF q m d t = none := by
  unfold bkF
  rw [e]
  exact if_neg h
theorem scBt : FnScope ["q", "m", "hand", "u", "source", "t", "news"] ["q", "m", "hand", "u", "source"] (defScope sBt) := ⟨rfl, rfl, rfl, by decide +kernel, rfl, by decide +kernel, by decide +kernel⟩
def spBt (Pt : Addr) : Sp := fun vs H Q _ => ∃ (q m h t s : Nat) (u : Int), vs = [.int q, .int m, .int h, .int u, .int s] ∧ 0 < q ∧ q ≤ 60 ∧ 0 < m ∧ h < 2 ^ q ∧ s < 2 ^ q ∧ ((m - 1 + q : Nat) : Int) - 1 - u = (t : Int) ∧ Tabs [(Pt, lamNm)] H ∧
  ∀ H' v, ExtN H H' → Tabs [(Pt, lamNm)] H' → PrO H' v ((bkF q m (h ^^^ s) t).map fun l => (h ^^^ 2 ^ (t % q), l)) → Q v H'
theorem ok_bt (F : FunS K "back_told" sBt f fd) (GTb : FnOk P w K mg base CX0 2 fTb fdTb ["q", "m", "u"] spTb) (kTb : PySem.W.keepIn K (.ref fTb) = true) (bTb : Binds K fdTb ["q", "m", "u"] []) (gTb : mg "turned_beat" = some (.ref fTb))
    (GHd : FnOk P w K mg base CX0 10 fHd fdHd ["q", "m", "hand", "t", "source"] (spHeard Pt)) (kHd : PySem.W.keepIn K (.ref fHd) = true) (qHd : KBinds K fdHd ["q", "m", "hand", "t", "source"] ["source"] g4 g4) (gHd : mg "heard" = some (.ref fHd))
    (GSi : FnOk P w K mg base CX0 9 fSi fdSi ["q", "m", "hand", "i", "source"] (spSince Pt)) (kSi : PySem.W.keepIn K (.ref fSi) = true) (qSi : KBinds K fdSi ["q", "m", "hand", "i", "source"] ["source"] g4 g4) (gSi : mg "since" = some (.ref fSi)) :
    FnOk P w K mg base CX0 11 f fd ["q", "m", "hand", "u", "source"] (spBt Pt) := by
  refine F.go scBt (fun vs H Q E h => ?_) (fun cdv A outer s H vs Q E hr h => ?_)
  · obtain ⟨a, b, c, d, e, g, rfl, _⟩ := h
    rfl
  · obtain ⟨q, m, h, t, s0, u, rfl, hq, hq6, hm, hh, hs, eu, hT, fin⟩ := h
    refine ⟨_, pss_cons (ps_set (i := 5) scBt.nd rfl (.inl rfl) (pe_call GTb (hr.mono (by decide)) (by rfl) gTb kTb bTb .nil pass0 (pa_cons (pv 0) (pa_cons (pv 1) (pa_cons (pv 3) pa_nil)))))
      (pss_cons (ps_set (i := 6) scBt.nd rfl (.inl rfl) (pe_callK GHd (hr.mono (by decide)) (by rfl) gHd kHd qHd pass0 (pa_cons (pv 0) (pa_cons (pv 1) (pa_cons (pv 2) (pa_cons (pv 5) pa_nil)))) (pk_cons (pv 4) pk_nil)))
      (pss_cons (ps_if (PW.pt (pw_or (pt_cmp (pc_isN (pv 6))) (pw_or1 (pt_cmpR op_ne (pe_callK GSi (hr.mono (by decide)) (by rfl) gSi kSi qSi pass0 (pa_cons (pv 0) (pa_cons (pv 1) (pa_cons (pv 2) (pa_cons (pe_ix ix_tup (pv 6) pe_int (fun _ _ => rfl)) pa_nil)))) (pk_cons (pv 4) pk_nil)) (pv 5) (nomark _))))) (pss_one (ps_ret pe_non)) pss_nil)
      (pss_one (ps_ret (pv 6))))), ?_⟩
    refine ⟨.int q, rfl, .int m, rfl, .int u, rfl, q, m, t, u, rfl, hm, eu, ?_⟩
    refine ⟨.int q, rfl, .int m, rfl, .int h, rfl, .int t, rfl, .int s0, rfl, q, m, h, t, s0, rfl, hq, hq6, hm, hh, hs, hT, fun e H1 x1 t1 => ?_, fun e H1 p x1 t1 hp => ?_⟩
    · refine ⟨_, rfl, _, rfl, iteT (iteT ?_)⟩
      refine fin H1 .non x1 t1 ?_
      rw [bk_no (du_none e)]
      rfl
    · have ed := du_some (m := m) e
      generalize min (t - ltF q (h ^^^ s0) (t % q)) (m - 1) = l at *
      have hl := du_lt hm ed
      refine ⟨.ref p, rfl, _, rfl, iteF ?_⟩
      refine ⟨.int q, rfl, .int m, rfl, .int h, rfl, .ref p, rfl, p, nv [h ^^^ 2 ^ (t % q), l], 1, .int (l : Nat), rfl, rfl, .inl (.inl hp), rfl, .int s0, rfl, q, m, h, l, s0, rfl, hq, hq6, hl, hh, hs, t1, fun H2 x2 t2 => ?_⟩
      have hp2 := x2 _ _ hp (fun ps z => nomatch z)
      by_cases es : h = s0
      · rw [if_pos es]
        refine ⟨.int t, rfl, rfl, _, rfl, iteT ?_⟩
        refine fin H2 .non (x1.trans x2) t2 ?_
        rw [bk_not ed (fun z => z.1 (by rw [es, Nat.xor_self]))]
        rfl
      · rw [if_neg es]
        refine ⟨.int t, rfl, rfl, _, rfl, ?_⟩
        by_cases et : snF q m (h ^^^ s0) l = t
        · rw [et, decide_eq_true rfl]
          refine iteF ⟨.ref p, rfl, ?_⟩
          refine fin H2 (.ref p) (x1.trans x2) t2 ?_
          rw [bk_yes ed ⟨fun z => es (by
            have := congrArg (· ^^^ s0) z
            simp only [Nat.zero_xor] at this
            rw [Nat.xor_assoc, Nat.xor_self, Nat.xor_zero] at this
            exact this), et⟩]
          exact ⟨p, rfl, hp2⟩
        · rw [decide_eq_false (show ¬ V.int (snF q m (h ^^^ s0) l : Nat) = V.int (t : Int) from fun z => et (by have := V.int.inj z; omega))]
          refine iteT ?_
          refine fin H2 .non (x1.trans x2) t2 ?_
          rw [bk_not ed (fun z => et z.2)]
          rfl
theorem scBh : FnScope ["q", "m", "hand", "u", "source", "other", "given"] ["q", "m", "hand", "u", "source"] (defScope sBh) := ⟨rfl, rfl, rfl, by decide +kernel, rfl, by decide +kernel, by decide +kernel⟩
def spBh (Pt : Addr) : Sp := fun vs H Q _ => ∃ (q m h t s : Nat) (u : Int), vs = [.int q, .int m, .int h, .int u, .int s] ∧ 0 < q ∧ q ≤ 60 ∧ 0 < m ∧ h < 2 ^ q ∧ s < 2 ^ q ∧ ((m - 1 + q : Nat) : Int) - 1 - u = (t : Int) ∧ Tabs [(Pt, lamNm)] H ∧
  ∀ H' v, ExtN H H' → Tabs [(Pt, lamNm)] H' → PrO H' v ((bkF q m (h ^^^ 2 ^ (t % q) ^^^ s) t).map fun l => (h ^^^ 2 ^ (t % q), l)) → Q v H'
theorem ok_bh (F : FunS K "back_heard" sBh f fd) (GX : FnOk P w K mg base CX0 1 fX fdX ["hand", "k"] spAcross) (kX : PySem.W.keepIn K (.ref fX) = true) (bX : Binds K fdX ["hand", "k"] []) (gX : mg "across" = some (.ref fX))
    (GTb : FnOk P w K mg base CX0 2 fTb fdTb ["q", "m", "u"] spTb) (kTb : PySem.W.keepIn K (.ref fTb) = true) (bTb : Binds K fdTb ["q", "m", "u"] []) (gTb : mg "turned_beat" = some (.ref fTb))
    (GBt : FnOk P w K mg base CX0 11 fBt fdBt ["q", "m", "hand", "u", "source"] (spBt Pt)) (kBt : PySem.W.keepIn K (.ref fBt) = true) (qBt : KBinds K fdBt ["q", "m", "hand", "u", "source"] ["source"] g4 g4) (gBt : mg "back_told" = some (.ref fBt)) :
    FnOk P w K mg base CX0 12 f fd ["q", "m", "hand", "u", "source"] (spBh Pt) := by
  refine F.go scBh (fun vs H Q E h => ?_) (fun cdv A outer s H vs Q E hr h => ?_)
  · obtain ⟨a, b, c, d, e, g, rfl, _⟩ := h
    rfl
  · obtain ⟨q, m, h, t, s0, u, rfl, hq, hq6, hm, hh, hs, eu, hT, fin⟩ := h
    refine ⟨_, pss_cons (ps_set (i := 5) scBh.nd rfl (.inl rfl) (pe_call GX (hr.mono (by decide)) (by rfl) gX kX bX .nil pass0 (pa_cons (pv 2) (pa_cons (pe_op op_modNN (pe_call GTb (hr.mono (by decide)) (by rfl) gTb kTb bTb .nil pass0 (pa_cons (pv 0) (pa_cons (pv 1) (pa_cons (pv 3) pa_nil)))) (pv 0)) pa_nil))))
      (pss_cons (ps_set (i := 6) scBh.nd rfl (.inl rfl) (pe_callK GBt (hr.mono (by decide)) (by rfl) gBt kBt qBt pass0 (pa_cons (pv 0) (pa_cons (pv 1) (pa_cons (pv 5) (pa_cons (pv 3) pa_nil)))) (pk_cons (pv 4) pk_nil)))
      (pss_cons (ps_if (pt_cmp (pc_isN (pv 6))) (pss_one (ps_ret pe_non)) pss_nil)
      (pss_one (ps_ret (pe_tup (pa_cons (pv 5) (pa_cons (pe_ix ix_tup (pv 6) pe_int (fun _ _ => rfl)) pa_nil))))))), ?_⟩
    have hk : t % q < q := Nat.mod_lt _ hq
    have ho : h ^^^ 2 ^ (t % q) < 2 ^ q := Nat.xor_lt_two_pow hh (Nat.pow_lt_pow_right (by decide) hk)
    refine ⟨.int h, rfl, .int q, rfl, .int m, rfl, .int u, rfl, q, m, t, u, rfl, hm, eu, .int q, rfl, t, q, rfl, rfl, hq, h, t % q, rfl, by omega, ?_⟩
    refine ⟨.int q, rfl, .int m, rfl, .int (h ^^^ 2 ^ (t % q) : Nat), rfl, .int u, rfl, .int s0, rfl, q, m, h ^^^ 2 ^ (t % q), t, s0, u, rfl, hq, hq6, hm, ho, hs, eu, hT, fun H1 v x1 t1 pr => ?_⟩
    have fin2 := fin
    cases eb : bkF q m (h ^^^ 2 ^ (t % q) ^^^ s0) t with
    | none =>
      rw [eb] at pr fin2
      have pr : v = .non := pr
      subst pr
      exact ⟨_, rfl, _, rfl, iteT (fin2 H1 .non x1 t1 rfl)⟩
    | some l =>
      rw [eb] at pr fin2
      obtain ⟨p, rfl, hp⟩ := pr
      refine ⟨.ref p, rfl, _, rfl, iteF ?_⟩
      refine ⟨.int (h ^^^ 2 ^ (t % q) : Nat), rfl, .ref p, rfl, p, nv [h ^^^ 2 ^ (t % q) ^^^ 2 ^ (t % q), l], 1, .int (l : Nat), rfl, rfl, .inl (.inl hp), rfl, (by show 2 ≤ sizeLine; decide), fun r nr => ?_⟩
      exact fin2 _ (.ref r) (ext_new x1 nr) (tabs_new t1 nr) ⟨r, rfl, by rw [upd_same]; rfl⟩
end
end Bf
namespace Bf
open PySem PySem.Spec PyProof.Rows L2 LamX NdefX
/-! ### small things for k11 -/
theorem pigeon {l : List Nat} {n : Nat} (nd : l.Nodup) (h : ∀ x ∈ l, x < n) : l.length ≤ n := by
  have p : l.Perm ((List.range n).filter fun x => decide (x ∈ l)) := by
    refine (List.perm_ext_iff_of_nodup nd (List.Pairwise.filter _ List.nodup_range)).mpr fun x => ?_
    rw [List.mem_filter, List.mem_range]
    exact ⟨fun hx => ⟨h x hx, decide_eq_true hx⟩, fun hx => of_decide_eq_true hx.2⟩
  rw [p.length_eq]
  have := List.length_filter_le (fun x => decide (x ∈ l)) (List.range n)
  rw [List.length_range] at this
  exact this
structure GI (q j s : Nat) (P W : List Nat) (ps : List (Nat × Nat)) : Prop where
  nd : (P ++ W).Nodup
  lt : ∀ x ∈ P ++ W, x < 2 ^ q
  src : s ∈ P ++ W
  par : ∀ x ∈ P ++ W, x ≠ s → tl q j s x ∈ P
  pnd : (ps.map (·.2)).Nodup
  pm : ∀ x, x ∈ ps.map (·.2) ↔ x < 2 ^ q ∧ tl q j s x ∈ P
  pt : ∀ pr ∈ ps, pr.1 = tl q j s pr.2
  cls : ∀ h x, h ∈ P → x < 2 ^ q → tl q j s x = h → x ≠ s → x ∈ P ++ W
theorem GI.start {q j s : Nat} (hs : s < 2 ^ q) : GI q j s [] [s] [] where
  nd := by simp
  lt := fun x hx => by
    have : x = s := by simpa using hx
    rw [this]
    exact hs
  src := by simp
  par := fun x hx hne => absurd (by simpa using hx) hne
  pnd := List.Pairwise.nil
  pm := fun x => by simp
  pt := fun pr h => absurd h List.not_mem_nil
  cls := fun h x hh => absurd hh List.not_mem_nil
theorem GI.step {q j s h : Nat} {P W ns : List Nat} {ps : List (Nat × Nat)} (g : GI q j s P (W ++ [h]) ps) (nn : ns.Nodup) (hn : ∀ x, x ∈ ns ↔ x < 2 ^ q ∧ tl q j s x = h) :
    GI q j s (P ++ [h]) (W ++ ns.filter fun x => !decide (x = s)) (ps ++ ns.map fun x => (h, x)) := by
  have hp : (P ++ (W ++ [h])).Perm (P ++ [h] ++ W) := by
    rw [List.append_assoc]
    exact List.Perm.append_left P List.perm_append_comm
  have nd1 : (P ++ [h] ++ W).Nodup := hp.nodup_iff.mp g.nd
  have hP : h ∉ P := fun z => by
    have := List.nodup_append.mp g.nd
    exact this.2.2 h z h (by simp) rfl
  have old : ∀ x, x ∈ P ++ [h] ++ W ↔ x ∈ P ++ (W ++ [h]) := fun x => hp.mem_iff.symm
  have fil : ∀ x, x ∈ ns.filter (fun x => !decide (x = s)) ↔ (x < 2 ^ q ∧ tl q j s x = h) ∧ x ≠ s := fun x => by
    rw [List.mem_filter, hn]
    simp
  refine ⟨?_, ?_, ?_, ?_, ?_, ?_, ?_, ?_⟩
  · rw [← List.append_assoc]
    refine List.nodup_append.mpr ⟨nd1, List.Pairwise.filter _ nn, fun a ha b hb e => ?_⟩
    subst e
    obtain ⟨⟨_, h2⟩, h3⟩ := (fil a).mp hb
    have := g.par a ((old a).mp ha) h3
    rw [h2] at this
    exact hP this
  · intro x hx
    rw [← List.append_assoc] at hx
    rcases List.mem_append.mp hx with hx | hx
    · exact g.lt x ((old x).mp hx)
    · exact ((fil x).mp hx).1.1
  · rw [← List.append_assoc]
    exact List.mem_append_left _ ((old s).mpr g.src)
  · intro x hx hne
    rw [← List.append_assoc] at hx
    rcases List.mem_append.mp hx with hx | hx
    · exact List.mem_append_left _ (g.par x ((old x).mp hx) hne)
    · rw [((fil x).mp hx).1.2]
      simp
  · have e : (ps ++ ns.map fun x => (h, x)).map (·.2) = ps.map (·.2) ++ ns := by
      rw [List.map_append, List.map_map]
      congr 1
      exact (List.map_congr_left fun x _ => rfl).trans (List.map_id ns)
    rw [e]
    refine List.nodup_append.mpr ⟨g.pnd, nn, fun a ha b hb e => ?_⟩
    subst e
    have h1 := ((g.pm a).mp ha).2
    rw [((hn a).mp hb).2] at h1
    exact hP h1
  · intro x
    have e : (ps ++ ns.map fun x => (h, x)).map (·.2) = ps.map (·.2) ++ ns := by
      rw [List.map_append, List.map_map]
      congr 1
      exact (List.map_congr_left fun x _ => rfl).trans (List.map_id ns)
    rw [e, List.mem_append, g.pm, hn, List.mem_append, List.mem_singleton]
    constructor
    · rintro (⟨a, b⟩ | ⟨a, b⟩)
      · exact ⟨a, .inl b⟩
      · exact ⟨a, .inr b⟩
    · rintro ⟨a, b | b⟩
      · exact .inl ⟨a, b⟩
      · exact .inr ⟨a, b⟩
  · intro pr hpr
    rcases List.mem_append.mp hpr with hpr | hpr
    · exact g.pt pr hpr
    · obtain ⟨x, hx, rfl⟩ := List.mem_map.mp hpr
      exact ((hn x).mp hx).2.symm
  · intro h' x hh' hx ht hne
    rw [← List.append_assoc]
    rcases List.mem_append.mp hh' with z | z
    · exact List.mem_append_left _ ((old x).mpr (g.cls h' x z hx ht hne))
    · rw [List.mem_singleton.mp z] at ht
      exact List.mem_append_right _ ((fil x).mpr ⟨⟨hx, ht⟩, hne⟩)
theorem tl_lt {q j s x : Nat} (hj : j < q) (hx : x < 2 ^ q) : tl q j s x < 2 ^ q := Nat.xor_lt_two_pow hx (Nat.pow_lt_pow_right (by decide) (cl_lt hj (List.getLast_mem _)))
theorem GI.all {q j s : Nat} {P : List Nat} {ps : List (Nat × Nat)} (hj : j < q) (hs : s < 2 ^ q) (g : GI q j s P [] ps) : ∀ x, x ∈ ps.map (·.2) ↔ x < 2 ^ q := fun x => by
  have src : s ∈ P := by simpa using g.src
  have all : ∀ y, y < 2 ^ q → y ∈ P := fun y hy => by
    by_cases e : y = s
    · rw [e]
      exact src
    · exact reach (P := fun z => z ∈ P) hj hs src (fun h x a b c d => by simpa using g.cls h x a b c d) _ y hy (Nat.le_refl _) e
  rw [g.pm]
  exact ⟨fun h => h.1, fun h => ⟨h, all _ (tl_lt hj h)⟩⟩
theorem GI.len {q j s : Nat} {P W : List Nat} {ps : List (Nat × Nat)} (g : GI q j s P W ps) : ps.length ≤ 2 ^ q ∧ P.length ≤ 2 ^ q := by
  constructor
  · have := pigeon g.pnd (n := 2 ^ q) fun x hx => ((g.pm x).mp hx).1
    rw [List.length_map] at this
    exact this
  · have := pigeon g.nd g.lt
    rw [List.length_append] at this
    omega
/-- a while whose measure stands in the invariant -/
theorem while_m {c : TT} {tb : TS} {D : Ends} {σ : L2.St} {H : Hp} (Pv : Nat → L2.St → Hp → Prop) (Ex : L2.St → Hp → Prop) (h0 : ∃ m, Pv m σ H)
    (hs : ∀ m σ H, Pv m σ H → c σ H fun b H1 => if b = true then tb { D with nx := fun σ' H' => ∃ m', m' < m ∧ Pv m' σ' H', ct := fun σ' H' => ∃ m', m' < m ∧ Pv m' σ' H', bk := D.nx } σ H1 else Ex σ H1)
    (he : ∀ σ H, Ex σ H → D.nx σ H) (mono : ∀ σ H Q Q', (∀ b H1, Q b H1 → Q' b H1) → c σ H Q → c σ H Q') : tWhile c tb D σ H := by
  refine ⟨Pv, h0, fun m σ H p => mono σ H _ _ (fun b H1 q => ?_) (hs m σ H p)⟩
  cases b with
  | true =>
    rw [if_pos rfl] at q
    first
      | exact q
      | exact iteT q
      | (rw [if_pos rfl]; exact ⟨_, fun σ' H' h => h, q⟩)
      | exact ⟨_, fun σ' H' h => h, q⟩
  | false =>
    rw [if_neg (by decide)] at q
    first
      | exact he _ _ q
      | (rw [if_neg (by decide)]; exact he _ _ q)
end Bf
namespace Bf
open PySem PySem.Spec PyProof.Rows L2 LamX NdefX
theorem bit1 (h k : Nat) : decide (V.int ((h / 2 ^ k % 2 : Nat) : Int) = V.int 1) = h.testBit k := by
  rw [Nat.testBit_eq_decide_div_mod_eq, dec_int]
  by_cases z : h / 2 ^ k % 2 = 1
  · rw [decide_eq_true z, z]; rfl
  · rw [decide_eq_false z]
    exact beq_eq_false_iff_ne.mpr (by omega)
theorem bit0 (h k : Nat) : decide (V.int ((h / 2 ^ k % 2 : Nat) : Int) = V.int 0) = !h.testBit k := by
  rw [Nat.testBit_eq_decide_div_mod_eq, dec_int]
  by_cases z : h / 2 ^ k % 2 = 1
  · rw [decide_eq_true z, z]; rfl
  · rw [decide_eq_false z]
    have : h / 2 ^ k % 2 = 0 := by omega
    rw [this]
    rfl
theorem head_rb {q d k e : Nat} (he : e < q) (hn : ∀ e', e' < e → d.testBit ((k + 1 + e') % q) = false) (hb : d.testBit ((k + 1 + e) % q) = true) : (rb q d (k + 1)).head? = some ((k + 1 + e) % q) := by
  unfold rb
  rw [List.head?_filter, List.find?_map]
  have : (List.range q).find? ((fun k => d.testBit k) ∘ fun i => (k + 1 + i) % q) = some e := by
    rw [List.find?_range_eq_some]
    refine ⟨hb, List.mem_range.mpr he, fun j hj => ?_⟩
    show (!(d.testBit ((k + 1 + j) % q))) = true
    rw [hn j hj]
    rfl
  rw [this]
  rfl
theorem tr_of {q d k e : Nat} (hk : k < q) (b : d.testBit k = true) (he : e < q) (hn : ∀ e', e' < e → d.testBit ((k + 1 + e') % q) = false) (hb : d.testBit ((k + 1 + e) % q) = true) : trF q d k = (k + 1 + e) % q := by
  have h1 := trF_head hk b
  rw [head_rb he hn hb] at h1
  exact (Option.some.inj h1).symm
theorem wrap_k {q k : Nat} (hk : k < q) : (k + 1 + (q - 1)) % q = k := by
  have : k + 1 + (q - 1) = k + q := by omega
  rw [this, Nat.add_mod_right, Nat.mod_eq_of_lt hk]
theorem nv_last2 {l : List Nat} {y z : Nat} : atI (nv (l ++ [y] ++ [z])) (-2) = some (.int (y : Int)) := by
  have e : nv (l ++ [y] ++ [z]) = nv l ++ [.int (y : Int)] ++ [.int (z : Int)] := by
    unfold nv
    rw [List.map_append, List.map_append]
    rfl
  rw [e]
  unfold atI ixN
  have hl : (nv l ++ [V.int (y : Int)] ++ [V.int (z : Int)]).length = (nv l).length + 2 := by simp
  rw [hl]
  have h1 : ((-2 : Int) + ((nv l).length + 2 : Nat)).toNat = (nv l).length := by omega
  simp only [show ¬ (0 : Int) ≤ -2 by decide, if_false]
  split
  · have h2 : ((-2 : Int) + ((nv l).length + 2)).toNat = (nv l).length := by omega
    simp [h2]
  · omega
theorem due_oV (q m d t : Nat) : dueV q m d t = oV (duF q m d t) := by
  unfold dueV duF
  split <;> rfl
section
variable {P : Program} {w : World} {K : PySem.W.Frag} {mg : Str → Option Value} {base : Heap} {f fFl fDu fFi : Addr} {fd fdFl fdDu fdFi : FuncData} {k : Nat}
/-! ### due -/
theorem scLdue : FnScope ["_law_size", "_law_count", "_law_spot", "_law_t", "_law_origin", "_law_apart", "_law_k", "_law_letter", "_law_j"] ["_law_size", "_law_count", "_law_spot", "_law_t", "_law_origin"] (defScope sLdue) := ⟨rfl, rfl, rfl, by decide +kernel, rfl, by decide +kernel, by decide +kernel⟩
def spLdue : Sp := fun vs H Q _ => ∃ q m h t s : Nat, vs = [.int q, .int m, .int h, .int t, .int s] ∧ 0 < q ∧ 0 < m ∧ Q (oV (duF q m (h ^^^ s) t)) H
theorem ok_ldue (F : Fun K "_law_due" "_law_due" sLdue f fd) (mn : mg "min" = none) : FnOk P w K mg base CX0 (k + 1) f fd ["_law_size", "_law_count", "_law_spot", "_law_t", "_law_origin"] spLdue := by
  refine F.ok scLdue (fun vs H Q E h => ?_) (fun cdv A outer s H vs Q E hr h => ?_)
  · obtain ⟨a, b, c, d, e, rfl, _⟩ := h
    rfl
  · obtain ⟨q, m, h, t, s0, rfl, hq, hm, fin⟩ := h
    refine ⟨_, pss_cons (ps_par3 (i := 5) (j := 6) (l := 7) (by rfl) scLdue.nd rfl rfl rfl (by decide) (by decide) (by decide) rfl rfl rfl (pa_cons (pe_op op_xorN (pv 2) (pv 4)) (pa_cons (pe_op op_modNN (pv 3) (pv 0)) (pa_cons (pe_op op_sub (pv 3) (pv 0)) pa_nil))) (by rfl))
      (pss_cons (ps_if (pt_cmpR op_eq (pe_op op_odd (pe_op op_shrNN (pv 5) (pv 6)) pe_int) pe_int (nomark _))
        (pss_cons (ps_set (i := 8) scLdue.nd rfl (.inl rfl) (pe_op op_modNN (pe_op op_addN (pv 6) pe_int) (pv 0)))
        (pss_cons (ps_while PassesOwn.never (pt_cmpR op_eq (pe_op op_odd (pe_op op_shrNN (pv 5) (pv 8)) pe_int) pe_int (nomark _))
          (pss_one (ps_set (i := 8) scLdue.nd rfl (.inl rfl) (pe_op op_modNN (pe_op op_addN (pv 8) pe_int) (pv 0)))))
        (pss_one (ps_set (i := 7) scLdue.nd rfl (.inl rfl) (pe_op op_sub (pv 3) (pe_op op_mod (pe_op op_sub (pv 6) (pv 8)) (pv 0))))))) pss_nil)
      (pss_one (ps_ret (pe_ifExp (pt_cmpR op_lt (pv 7) pe_int (nomark _)) pe_non (pe_callB (call_min2 rfl) (by rfl) mn (by decide +kernel) (pa_cons (pv 7) (pa_cons (pe_op op_subN (pv 1) pe_int) pa_nil))))))), ?_⟩
    generalize ed : h ^^^ s0 = d at fin
    have hk : t % q < q := Nat.mod_lt _ hq
    refine ⟨.int h, rfl, .int s0, rfl, h, s0, rfl, rfl, .int t, rfl, .int q, rfl, t, q, rfl, rfl, hq, .int t, rfl, .int q, rfl, _, _, rfl, rfl, _, _, _, rfl, ?_⟩
    rw [ed]
    rw [← due_oV] at fin
    have rest : ∀ (l : Int), l = (t : Int) - (ltF q d (t % q) : Nat) → ((l < 0 → Q .non H) ∧ (¬ l < 0 → Q (.int (if ((m - 1 : Nat) : Int) < l then ((m - 1 : Nat) : Int) else l)) H)) := by
      intro l el
      have := fin
      unfold dueV at this
      constructor
      · intro hl
        rw [if_pos (by omega)] at this
        exact this
      · intro hl
        rw [if_neg (by omega)] at this
        have e : (if ((m - 1 : Nat) : Int) < l then ((m - 1 : Nat) : Int) else l) = ((min (t - ltF q d (t % q)) (m - 1) : Nat) : Int) := by
          split <;> omega
        rw [e]
        exact this
    refine ⟨.int d, rfl, .int (t % q : Nat), rfl, d, t % q, rfl, rfl, d / 2 ^ (t % q), rfl, rfl, rfl, _, rfl, ?_⟩
    rw [bit1]
    generalize hkk : t % q = k at *
    refine ite2 (fun e => ?_) (fun e => ?_)
    · refine ⟨.int k, rfl, k, 1, rfl, rfl, .int q, rfl, k + 1, q, rfl, rfl, hq, ?_⟩
      refine while_m (fun n σ H' => ∃ x : Nat, n = q - x ∧ x < q ∧ σ = [some (.int q), some (.int m), some (.int h), some (.int t), some (.int s0), some (.int d), some (.int k), some (.int ((t : Int) - q)), some (.int ((k + 1 + x) % q : Nat))] ∧ H' = H ∧ ∀ e', e' < x → d.testBit ((k + 1 + e') % q) = false)
        (fun σ H' => σ = [some (.int q), some (.int m), some (.int h), some (.int t), some (.int s0), some (.int d), some (.int k), some (.int ((t : Int) - q)), some (.int (trF q d k : Nat))] ∧ H' = H)
        ⟨_, 0, rfl, hq, rfl, rfl, fun e' he => absurd he (Nat.not_lt_zero _)⟩ ?_ ?_ ?_
      · rintro n σ H' ⟨x, rfl, hx, rfl, rfl, hn⟩
        refine ⟨.int d, rfl, .int ((k + 1 + x) % q : Nat), rfl, d, (k + 1 + x) % q, rfl, rfl, d / 2 ^ ((k + 1 + x) % q), rfl, rfl, rfl, _, rfl, ?_⟩
        rw [bit0]
        cases z : d.testBit ((k + 1 + x) % q) with
        | true =>
          refine iteF ⟨?_, rfl⟩
          rw [tr_of hk e hx hn z]
        | false =>
          have hx2 : x + 1 < q := by
            refine Nat.lt_of_not_le fun l => ?_
            have : x = q - 1 := by omega
            rw [this, wrap_k hk, e] at z
            cases z
          refine iteT ⟨.int ((k + 1 + x) % q : Nat), rfl, (k + 1 + x) % q, 1, rfl, rfl, .int q, rfl, (k + 1 + x) % q + 1, q, rfl, rfl, hq, q - (x + 1), by omega, x + 1, rfl, hx2, ?_, rfl, fun e' he => ?_⟩
          · have : ((k + 1 + x) % q + 1) % q = (k + 1 + (x + 1)) % q := by rw [Nat.mod_add_mod]; rfl
            rw [this]
            rfl
          · rcases Nat.lt_succ_iff_lt_or_eq.mp he with h1 | rfl
            · exact hn e' h1
            · exact z
      · rintro σ H' ⟨rfl, rfl⟩
        obtain ⟨r1, r2⟩ := rest ((t : Int) - (((k : Nat) : Int) - (trF q d k : Nat)) % (q : Int)) (by rw [ltF_in hq e]; rfl)
        refine ⟨.int t, rfl, .int k, rfl, .int (trF q d k : Nat), rfl, _, _, rfl, rfl, .int q, rfl, _, _, rfl, rfl, (show (0 : Int) < (q : Int) by omega), _, _, rfl, rfl, ?_⟩
        refine ⟨_, rfl, _, _, rfl, rfl, _, rfl, ite2 (fun z => ?_) (fun z => ?_)⟩
        · exact r1 (of_decide_eq_true z)
        · exact ⟨_, rfl, .int m, rfl, m, 1, rfl, rfl, hm, _, _, rfl, r2 (fun y => z (decide_eq_true y))⟩
      · intro σ H1 Q1 Q2 hq12 hc
        obtain ⟨a1, b1, c1, d1, e1, f1, g1, h1, i1, j1, k1, l1, m1, n1, o1⟩ := hc
        exact ⟨a1, b1, c1, d1, e1, f1, g1, h1, i1, j1, k1, l1, m1, n1, hq12 _ _ o1⟩
    · have e2 : d.testBit k = false := by
        cases z : d.testBit k with
        | false => rfl
        | true => exact absurd z e
      obtain ⟨r1, r2⟩ := rest ((t : Int) - (q : Int)) (by rw [ltF_out e2])
      refine ⟨_, rfl, _, _, rfl, rfl, _, rfl, ite2 (fun z => ?_) (fun z => ?_)⟩
      · exact r1 (of_decide_eq_true z)
      · exact ⟨_, rfl, .int m, rfl, m, 1, rfl, rfl, hm, _, _, rfl, r2 (fun y => z (decide_eq_true y))⟩
/-! ### firsts -/
theorem if_cg {α : Type} {c d : Prop} [Decidable c] [Decidable d] {a b a' b' : α} (h : c ↔ d) (e1 : a = a') (e2 : b = b') : (if c then a else b) = if d then a' else b' := by
  subst e1 e2
  by_cases x : c
  · rw [if_pos x, if_pos (h.mp x)]
  · rw [if_neg x, if_neg (fun y => x (h.mpr y))]
def ky (h l : Nat) : List Key := [.inl (h : Int), .inl (l : Int)]
theorem ky_inj {h l h' l' : Nat} (e : ky h l = ky h' l') : h = h' ∧ l = l' := by
  unfold ky at e
  injection e with e1 e2
  injection e2 with e2 _
  injection e1 with e1
  injection e2 with e2
  omega
/-- what stands in the dict behind t beats and n hands of the next one -/
def Fst (q m s t n : Nat) (kvs : List (List Key × V)) : Prop := kvs.length ≤ t * 2 ^ q + n ∧ (∀ l : Nat, valV kvs (ky s l) = none) ∧ ∀ h l : Nat, h < 2 ^ q → h ≠ s → l < m →
  valV kvs (ky h l) = if snF q m (h ^^^ s) l < t ∨ (snF q m (h ^^^ s) l = t ∧ h < n) then some (.int (snF q m (h ^^^ s) l : Nat)) else none
theorem fst_0 (q m s : Nat) : Fst q m s 0 0 [] := ⟨Nat.zero_le _, fun _ => valV_nil, fun h l _ _ _ => by rw [valV_nil, if_neg (by omega)]⟩
theorem fst_row {q m s t : Nat} {kvs : List (List Key × V)} (h : Fst q m s t (2 ^ q) kvs) : Fst q m s (t + 1) 0 kvs := by
  refine ⟨by rw [Nat.succ_mul]; exact h.1, h.2.1, fun x l hx hs hl => ?_⟩
  rw [h.2.2 x l hx hs hl]
  refine if_cg ?_ rfl rfl
  omega
theorem xno {h s : Nat} (e : h ≠ s) : h ^^^ s ≠ 0 := fun z => e (by
  have := congrArg (· ^^^ s) z
  simp only [Nat.zero_xor] at this
  rw [Nat.xor_assoc, Nat.xor_self, Nat.xor_zero] at this
  exact this)
theorem fst_skip {q m s t n : Nat} {kvs : List (List Key × V)} (hq : 0 < q) (hs : s < 2 ^ q) (h : Fst q m s t n kvs) (hn : n < 2 ^ q) (c : ∀ l, l < m → n ≠ s → snF q m (n ^^^ s) l ≠ t) : Fst q m s t (n + 1) kvs := by
  refine ⟨by have := h.1; omega, h.2.1, fun x l hx hxs hl => ?_⟩
  rw [h.2.2 x l hx hxs hl]
  refine if_cg ?_ rfl rfl
  by_cases e : x = n
  · subst e
    have := c l hl hxs
    omega
  · omega
theorem fst_put {q m s t n i : Nat} {kvs : List (List Key × V)} (hq : 0 < q) (hm : 0 < m) (hs : s < 2 ^ q) (h : Fst q m s t n kvs) (hn : n < 2 ^ q) (hns : n ≠ s) (e : duF q m (n ^^^ s) t = some i) (hv : valV kvs (ky n i) = none) : Fst q m s t (n + 1) (putK kvs (ky n i) (.int (t : Nat))) := by
  have hd : n ^^^ s < 2 ^ q := Nat.xor_lt_two_pow hn hs
  obtain ⟨hi, hle, _⟩ := heard_by hq hm hd (xno hns) e
  have hsn : snF q m (n ^^^ s) i = t := by
    rw [h.2.2 n i hn hns hi] at hv
    by_cases c : snF q m (n ^^^ s) i < t ∨ (snF q m (n ^^^ s) i = t ∧ n < n)
    · rw [if_pos c] at hv
      cases hv
    · omega
  refine ⟨Nat.le_trans (length_putK _ _ _) (by have := h.1; omega), fun l => by rw [valV_put, if_neg (fun e => hns (ky_inj e).1.symm)]; exact h.2.1 l, fun x l hx hxs hl => ?_⟩
  rw [valV_put]
  by_cases c : ky x l = ky n i
  · obtain ⟨rfl, rfl⟩ := ky_inj c
    rw [if_pos c, if_pos (by omega), hsn]
  · rw [if_neg c, h.2.2 x l hx hxs hl]
    refine if_cg ?_ rfl rfl
    by_cases ex : x = n
    · subst ex
      have : snF q m (x ^^^ s) l ≠ t := fun z => c (by
        have z1 := due_at hq hd (xno hns) hl
        rw [z, e] at z1
        rw [Option.some.inj z1])
      omega
    · omega
theorem scFirsts : FnScope ["_law_size", "_law_count", "_law_origin", "_law_found", "_law_t", "_law_spot", "_law_letter"] ["_law_size", "_law_count", "_law_origin"] (defScope sFirsts) := ⟨rfl, rfl, rfl, by decide +kernel, rfl, by decide +kernel, by decide +kernel⟩
def spFirsts : Sp := fun vs H Q _ => ∃ q m s : Nat, vs = [.int q, .int m, .int s] ∧ 0 < q ∧ q ≤ 4 ∧ 0 < m ∧ m ≤ 100 ∧ s < 2 ^ q ∧ ∀ H' p kvs, Same H H' → H p = none → H' p = some (.dT kvs) → Fst q m s (m - 1 + q) 0 kvs → Q (.ref p) H'
theorem ok_firsts {fDu : Addr} {fdDu : FuncData} (F : Fun K "_law_firsts" "_law_firsts" sFirsts f fd) (GD : FnOk P w K mg base CX0 1 fDu fdDu ["_law_size", "_law_count", "_law_spot", "_law_t", "_law_origin"] spLdue) (kD : PySem.W.keepIn K (.ref fDu) = true) (bD : Binds K fdDu ["_law_size", "_law_count", "_law_spot", "_law_t", "_law_origin"] []) (gD : mg "_law_due" = some (.ref fDu)) (mr : mg "range" = none) :
    FnOk P w K mg base CX0 2 f fd ["_law_size", "_law_count", "_law_origin"] spFirsts := by
  refine F.ok scFirsts (fun vs H Q E h => ?_) (fun cdv A outer s H vs Q E hr h => ?_)
  · obtain ⟨a, b, c, rfl, _⟩ := h
    rfl
  · obtain ⟨q, m, s0, rfl, hq, hq4, hm, hm2, hs, fin⟩ := h
    have hu : (A.deeper (envOfC "_law_firsts" (defScope sFirsts) s.heap.objs.size f cdv)).units + 1 < cLine := by have := hr.un; omega
    refine ⟨_, pss_cons (ps_set (i := 3) scFirsts.nd rfl (.inl rfl) pe_dnewT)
      (pss_cons (ps_for PassesOwn.never rfl (pi_range1 (by rfl) mr (pa_cons (pe_op op_addN (pe_op op_subN (pv 1) pe_int) (pv 0)) pa_nil)) (pg_name (i := 4) scFirsts.nd rfl (.inl rfl))
        (pss_one (ps_for PassesOwn.never rfl (pi_range1 (by rfl) mr (pa_cons (pe_op op_bit pe_int (pv 0)) pa_nil)) (pg_name (i := 5) scFirsts.nd rfl (.inl rfl))
          (pss_cons (ps_set (i := 6) scFirsts.nd rfl (.inl rfl) (pe_call GD (hr.mono (by decide)) (by rfl) gD kD bD .nil pass0 (pa_cons (pv 0) (pa_cons (pv 1) (pa_cons (pv 5) (pa_cons (pv 4) (pa_cons (pv 2) pa_nil)))))))
          (pss_one (ps_if (PW.pt (pw_and (pt_cmp (pc_notN (pv 6))) (pw_and (pt_cmpR op_ne (pv 5) (pv 2) (nomark _)) (pw_and1 (pt_cmp (pc_dnotin hu (pe_tup (pa_cons (pv 5) (pa_cons (pv 6) pa_nil))) (pv 3)))))))
            (pss_one (ps_dput hu (pv 3) (pe_tup (pa_cons (pv 5) (pa_cons (pv 6) pa_nil))) (pv 4) rfl)) pss_nil))))))
      (pss_one (ps_ret (pv 3)))), ?_⟩
    have h16 : 2 ^ q ≤ 16 := Nat.pow_le_pow_right (n := 2) (by decide) hq4
    refine fun D nD => ?_
    refine ⟨.int m, rfl, m, 1, rfl, rfl, hm, .int q, rfl, m - 1, q, rfl, rfl, _, rfl, by omega, by omega, for_range (lo := 0) (n := m - 1 + q) (fun t σ H' => ∃ y4 y5 y6 kvs, σ = [some (.int q), some (.int m), some (.int s0), some (.ref D), y4, y5, y6] ∧ Same H H' ∧ H' D = some (.dT kvs) ∧ Fst q m s0 t 0 kvs) ⟨none, none, none, [], rfl, same_new (Same.refl H) nD, upd_same, fst_0 q m s0⟩ ?_ ?_⟩
    · rintro t σ H1 ht ⟨y4, y5, y6, kvs, rfl, s1, eD, f1⟩
      rw [show (0 : Int) + (t : Int) = ((t : Nat) : Int) by omega]
      refine ⟨.int q, rfl, q, rfl, rfl, by omega, _, rfl, by omega, by omega, for_range (lo := 0) (n := 2 ^ q) (fun n σ H' => ∃ y5 y6 kvs, σ = [some (.int q), some (.int m), some (.int s0), some (.ref D), some (.int (t : Nat)), y5, y6] ∧ Same H H' ∧ H' D = some (.dT kvs) ∧ Fst q m s0 t n kvs) ⟨_, _, kvs, rfl, s1, eD, f1⟩ ?_ ?_⟩
      · rintro n σ H2 hn ⟨y5, y6, kvs, rfl, s2, eD, f2⟩
        rw [show (0 : Int) + (n : Int) = ((n : Nat) : Int) by omega]
        have hn : n < 2 ^ q := by omega
        have hd : n ^^^ s0 < 2 ^ q := Nat.xor_lt_two_pow hn hs
        refine ⟨.int q, rfl, .int m, rfl, .int (n : Nat), rfl, .int (t : Nat), rfl, .int s0, rfl, q, m, n, t, s0, rfl, hq, hm, ?_⟩
        cases e : duF q m (n ^^^ s0) t with
        | none =>
          refine ⟨.non, rfl, _, rfl, iteF ?_⟩
          refine ⟨_, _, kvs, rfl, s2, eD, fst_skip hq hs f2 hn fun l hl hns z => ?_⟩
          have z1 := due_at hq hd (xno hns) hl
          rw [z, e] at z1
          cases z1
        | some i =>
          refine ⟨.int (i : Nat), rfl, _, rfl, iteT ?_⟩
          refine ⟨.int (n : Nat), rfl, .int s0, rfl, rfl, _, rfl, ?_⟩
          by_cases es : n = s0
          · rw [decide_eq_true (show V.int (n : Nat) = V.int (s0 : Nat) by rw [es])]
            refine iteF (iteF ⟨_, _, kvs, rfl, s2, eD, ?_⟩)
            exact fst_skip hq hs f2 hn fun l hl hns z => absurd es hns
          · rw [decide_eq_false (show ¬ V.int (n : Nat) = V.int (s0 : Nat) from fun z => es (by have := V.int.inj z; omega))]
            refine iteT ⟨.int (n : Nat), rfl, .int (i : Nat), rfl, (by show 2 ≤ sizeLine; decide), fun p np => ⟨.ref D, rfl, D, _, rfl, DGet.t (k := ky n i) (by rw [upd_ne (ne_of_none eD np)]; exact eD) (by rw [upd_same]; rfl), _, rfl, ?_⟩⟩
            have sp : Same H (upd H2 p (.tup [V.int (n : Nat), .int (i : Nat)])) := same_new s2 np
            have eDp : (upd H2 p (.tup [V.int (n : Nat), .int (i : Nat)])) D = some (.dT kvs) := by rw [upd_ne (ne_of_none eD np)]; exact eD
            cases ev : valV kvs (ky n i) with
            | none =>
              refine iteT ⟨.int (t : Nat), rfl, .ref D, rfl, .int (n : Nat), rfl, .int (i : Nat), rfl, (by show 2 ≤ sizeLine; decide), fun p2 np2 => ?_⟩
              have eD2 : (upd (upd H2 p (.tup [V.int (n : Nat), .int (i : Nat)])) p2 (.tup [V.int (n : Nat), .int (i : Nat)])) D = some (.dT kvs) := by rw [upd_ne (ne_of_none eDp np2)]; exact eDp
              have hlen : kvs.length < sizeLine := by
                have h1 := f2.1
                have h2 : t * 2 ^ q ≤ 200 * 16 := Nat.mul_le_mul (by omega) h16
                have : sizeLine = 16777216 := rfl
                omega
              refine ⟨D, _, rfl, DPut.t (k := ky n i) eD2 (by rw [upd_same]; rfl) hlen, ?_⟩
              refine ⟨_, _, _, rfl, fun b o z => ?_, upd_same, fst_put hq hm hs f2 hn es e ev⟩
              rw [upd_ne (ne_of_none z nD)]
              exact same_new sp np2 b o z
            | some v =>
              refine iteF ⟨_, _, kvs, rfl, sp, eDp, fst_skip hq hs f2 hn fun l hl hns z => ?_⟩
              have z1 := due_at hq hd (xno hns) hl
              rw [z, e] at z1
              have z2 := Option.some.inj z1
              subst z2
              have hv := f2.2.2 n i hn hns hl
              rw [ev, if_neg (by omega)] at hv
              cases hv
      · rintro σ H2 ⟨y5, y6, kvs, rfl, s2, eD, f2⟩
        exact ⟨_, _, _, kvs, rfl, s2, eD, fst_row f2⟩
    · rintro σ H1 ⟨y4, y5, y6, kvs, rfl, s1, eD, f1⟩
      exact ⟨.ref D, rfl, fin H1 D kvs s1 nD eD f1⟩
end
end Bf
namespace Bf
open PySem PySem.Spec PyProof.Rows L2
/-! ### d.get((n, None), x) of a dict whose keys are tuples of numbers and texts -/
def toL : Key → Leaf
  | .inl i => .num i
  | .inr x => .text x
theorem toL_inj : ∀ {k j : Key}, toL k = toL j → k = j
  | .inl _, .inl _, e => by injection e with e; rw [e]
  | .inr _, .inr _, e => by injection e with e; rw [e]
  | .inl _, .inr _, e => nomatch e
  | .inr _, .inl _, e => nomatch e
theorem toLs_inj : ∀ {ks js : List Key}, ks.map toL = js.map toL → ks = js
  | [], [], _ => rfl
  | [], _ :: _, e => nomatch e
  | _ :: _, [], e => nomatch e
  | k :: ks, j :: js, e => by
    injection e with e1 e2
    rw [toL_inj e1, toLs_inj e2]
theorem toL_is {k : Key} {v : Value} (h : keyIs k v = true) : Leaf.isOf (toL k) v = true := by
  rcases keyIs_shape h with ⟨i, t, rfl, rfl⟩ | ⟨x, t, rfl, rfl⟩
  · exact decide_eq_true rfl
  · exact h
theorem toL_hash (P : Program) (w : World) : ∀ k : Key, (leafKind P w).hash (toL k) = (mixKind P w).hash k
  | .inl _ => rfl
  | .inr _ => rfl
theorem items_L {P : Program} {w : World} {ks : List Key} {vs : List Value} (h : ItemsAre (mixKind P w) ks vs) : ItemsAre (leafKind P w) (ks.map toL) vs := by
  induction h with
  | nil => exact .nil
  | cons a _ ih => exact .cons (toL_is a) ih
theorem tup_hash (P : Program) (w : World) (ks : List Key) : (tupleKind (leafKind P w)).hash (ks.map toL) = (tupleKind (mixKind P w)).hash ks := by
  show reduceHash (Builtin.Tuple.tupleHashOf ((ks.map toL).map (leafKind P w).hash)) = reduceHash (Builtin.Tuple.tupleHashOf (ks.map (mixKind P w).hash))
  rw [List.map_map]
  congr 2
  exact List.map_congr_left fun k _ => toL_hash P w k
def leafs (xs : List (List Key × Addr × Value)) : List (List Leaf × Addr × Value) := xs.map fun x => (x.1.map toL, x.2)
theorem dict_L {P : Program} {w : World} {h : Heap} {d : Addr} {xs : List (List Key × Addr × Value)} (m : h.DictOfH (tupleKind (mixKind P w)) d xs) : h.DictOfH (tupleKind (leafKind P w)) d (leafs xs) := by
  obtain ⟨o, es, ep, h1, h2, h3, h4, h5, h6⟩ := m
  refine ⟨o, es, ep, h1, h2, h3, ?_, fun y hy => ?_, ?_⟩
  · rw [h4]
    unfold leafs
    rw [List.map_map]
    refine List.map_congr_left fun x _ => ?_
    show entryOfKey _ x = entryOfKey _ (x.1.map toL, x.2)
    unfold entryOfKey
    rw [tup_hash]
  · obtain ⟨x, hx, rfl⟩ := List.mem_map.mp hy
    obtain ⟨o', its, n, e1, e2, e3, e4⟩ := h5 x hx
    exact ⟨o', its, n, e1, e2, e3, items_L e4⟩
  · unfold leafs
    rw [List.map_map]
    have := h6
    unfold List.Nodup at this ⊢
    rw [List.pairwise_map] at this ⊢
    exact this.imp fun {a b} z e => z (toLs_inj e)
theorem no_none {xs : List (List Key × Addr × Value)} {n : Int} : atKey (leafs xs) [.num n, .none] = none := by
  unfold atKey leafs
  rw [List.find?_eq_none.mpr fun y hy => ?_]
  · rfl
  · obtain ⟨x, _, rfl⟩ := List.mem_map.mp hy
    intro z
    have e : x.1.map toL = [.num n, .none] := of_decide_eq_true z
    generalize x.1 = l at e
    match l, e with
    | [], e => nomatch e
    | [_], e => nomatch (List.cons.inj e).2
    | a :: b :: l, e =>
      have e2 := (List.cons.inj (List.cons.inj e).2).1
      cases b <;> cases e2
theorem get_none {X : Cx} {A : Around} {E : Value → Shared → Prop} {pins : List (Addr × Obj)} {σ : L2.St} {H : Hp} {s : Shared} {a b : Addr} {n : Int} {kvs : List (List Key × V)} {r : Value} {Q : Value → Shared → Prop} (hu : A.units + 1 < cLine) (I : Inv X pins σ H s) (e : H a = some (.dT kvs)) (eb : H b = some (.tup [.int n, .non]))
    (h : ∀ s', Inv X pins σ H s' → Q r s') : wpAny (model X.prog X.w) A (call (.builtin "dict.get") [.ref a, .ref b, r]) Q E s := by
  obtain ⟨_, hd, xs, _, dd⟩ := dt_of I.hok e
  have dl := dict_L dd
  have hk : (tupleKind (leafKind X.prog X.w)).is s.heap [.num n, .none] b := by
    obtain ⟨_, its, r', o, h1, h2, c, h3⟩ := (show ObjOk X.prog X.w H s.heap b (.tup [.int n, .non]) from I.hok b _ eb)
    refine ⟨o, its.toArray, c, h1, h2, h3, ?_⟩
    match its, r' with
    | _, .cons r1 (.cons r2 .nil) =>
      obtain ⟨t, rfl⟩ := r1
      cases r2
      exact .cons (decide_eq_true rfl) (.cons rfl .nil)
  refine call_meetsIn PySem.F.slot_dict_get dl.typeIs PySem.F.entry_dict_get (PySem.F.args_dict_get_3 _ _ _) (meetsH_dict_get_default (tupleKind (leafKind X.prog X.w)) a b hd r) ⟨tupleKind_room_in1 hu, [.num n, .none], leafs xs, hk, dl, ?_⟩
  rw [no_none]
  exact h _ (I.tok _)
/-- what such a dict gives for a key, which may hold None -/
def GetN (H : Hp) (a : Addr) (y : V) (o : Option V) : Prop := DGet H a y o ∨ ∃ (b : Addr) (n : Int) (kvs : List (List Key × V)), y = .ref b ∧ H a = some (.dT kvs) ∧ H b = some (.tup [.int n, .non]) ∧ o = none
def tGetN (td ty tx : TE) : TE := fun σ H Q => td σ H fun x H1 => ∃ a, x = .ref a ∧ IsD H1 a ∧ ty σ H1 fun y H2 => tx σ H2 fun z H3 => ∃ o, GetN H3 a y o ∧ Q (o.getD z) H3
theorem pe_getN {X : Cx} {o e f : Expr} {td ty tx : TE} {apos cpos : Pos} (hu : X.A.units + 1 < cLine) (ho : PE X o td) (he : PE X e ty) (hf : PE X f tx) (m : M2 X o "get" apos e f cpos) : PE X (.Call (.Attribute o "get" apos) [e, f] [] cpos) (tGetN td ty tx) := by
  constructor
  intro pins s σ H Q I h
  refine wpAny_Call_method m.base m.few m.line PySem.F.plainAttrs_dict PySem.F.slot_dict_get PySem.F.type_dict_get (thn (ho.run pins s σ H _ I h) fun uu s1 ⟨x, H1, I1, rx, a, ex, d, q1⟩ => ?_)
  subst ex
  obtain rfl : uu = Value.ref a := rx
  obtain ⟨ta, tb, _⟩ := isD_at I1 d
  refine ⟨ta, tb, ?_⟩
  rw [m.trees]
  refine Calls.callWith_builtin rfl (Calls.evalArgs_plain (Calls.spliced_cons (thn (he.run pins s1 σ H1 _ I1 q1) fun kv s2 ⟨y, H2, I2, ry, q2⟩ => Calls.spliced_cons (thn (hf.run pins s2 σ H2 _ I2 q2) fun dv s3 ⟨z, H3, I3, rz, ov, g, q3⟩ => Calls.spliced_nil ?_))))
  rcases g with g | ⟨b, n, kvs, rfl, ea, eb, rfl⟩
  · exact d_get2 hu I3 g ry rz fun w' s4 I4 rw' => ⟨_, H3, I4, rw', q3⟩
  · cases (show kv = Value.ref b from ry)
    exact get_none hu I3 ea eb fun s4 I4 => ⟨_, H3, I4, rz, q3⟩
end Bf
namespace Bf
open PySem PySem.Spec PyProof.Rows L2 LamX NdefX

theorem rd_ifQ {tt : TT} {ta tb : TE} {σ : L2.St} {H : Hp} {Q : VK} (b : Bool) (T : Hp → Prop) (R : V → Hp → Prop) (h0 : ∀ Q' : Bool → Hp → Prop, (∀ H', T H' → Q' b H') → tt σ H Q') (h1 : b = true → ∀ H', T H' → ∀ Q' : VK, (∀ v H'', R v H'' → Q' v H'') → ta σ H' Q') (h2 : b = false → ∀ H', T H' → ∀ Q' : VK, (∀ v H'', R v H'' → Q' v H'') → tb σ H' Q') (h : ∀ v H', R v H' → Q v H') : tIf tt ta tb σ H Q := by
  refine h0 _ fun H' t => ?_
  cases b with
  | true => exact iteT (h1 rfl H' t _ h)
  | false => exact iteF (h2 rfl H' t _ h)
theorem rd_ifX {tt : TT} {te : TE} {D : Ends} {σ : L2.St} {H : Hp} (b : Bool) (R : Hp → Prop) (h0 : ∀ Q' : Bool → Hp → Prop, Q' b H → tt σ H Q') (h1 : b = true → ∀ Q : VK, (∀ v H', R H' → Q v H') → te σ H Q) (h2 : b = false → R H) (h : ∀ H', R H' → D.nx σ H') : tIfS tt (tDrop te) tNext D σ H := by
  refine h0 _ ?_
  cases b with
  | true => exact iteT (h1 rfl _ fun v H' r => h H' r)
  | false => exact iteF (h H (h2 rfl))
theorem sn_end_le {q m d i : Nat} (hq : 0 < q) (hi : i < m) : snF q m d i + 1 ≤ m - 1 + q := by
  unfold snF
  by_cases e : i + 1 = m
  · rw [if_pos e]
    have := far_lt (d := d) (j := i % q) hq
    omega
  · rw [if_neg e]
    have := dy_le (d := d) (j := i % q) hq
    omega
/-- what the dict of first beats gives -/
def gtO (q m s h t : Nat) : Option V := match duF q m (h ^^^ s) t with
  | none => none
  | some i => if h = s then none else some (.int (snF q m (h ^^^ s) i : Nat))
theorem get_at {q m s h t : Nat} {H : Hp} {D p : Addr} {kvs : List (List Key × V)} (hq : 0 < q) (hm : 0 < m) (hs : s < 2 ^ q) (f : Fst q m s (m - 1 + q) 0 kvs) (hh : h < 2 ^ q) (eD : H D = some (.dT kvs)) (ep : H p = some (.tup [.int (h : Nat), oV (duF q m (h ^^^ s) t)])) : GetN H D (.ref p) (gtO q m s h t) := by
  unfold gtO
  cases e : duF q m (h ^^^ s) t with
  | none =>
    rw [e] at ep
    exact .inr ⟨p, h, kvs, rfl, eD, ep, rfl⟩
  | some i =>
    rw [e] at ep
    have hv : valV kvs (ky h i) = if h = s then none else some (.int (snF q m (h ^^^ s) i : Nat)) := by
      by_cases c : h = s
      · rw [if_pos c, c]
        exact f.2.1 i
      · have hi := du_lt hm e
        have := sn_end_le (d := h ^^^ s) hq hi
        rw [if_neg c, f.2.2 h i hh c hi, if_pos (by omega)]
    refine .inl ?_
    show DGet H D (.ref p) (if h = s then none else some (.int (snF q m (h ^^^ s) i : Nat)))
    rw [← hv]
    exact DGet.t (k := ky h i) eD ep
theorem gt_scal (q m s h t : Nat) : scal ((gtO q m s h t).getD .non) (V.int (t : Nat)) = true := by
  unfold gtO
  cases duF q m (h ^^^ s) t with
  | none => rfl
  | some i =>
    by_cases c : h = s
    · simp only [if_pos c]
      rfl
    · simp only [if_neg c]
      rfl
theorem gt_yes {q m s h t : Nat} (b : decide ((gtO q m s h t).getD .non = V.int (t : Nat)) = true) : ∃ i, duF q m (h ^^^ s) t = some i ∧ bkF q m (h ^^^ s) t = some i := by
  have e := of_decide_eq_true b
  unfold gtO at e
  cases c : duF q m (h ^^^ s) t with
  | none => rw [c] at e; cases e
  | some i =>
    rw [c] at e
    by_cases z : h = s
    · simp only [if_pos z] at e
      cases e
    · simp only [if_neg z] at e
      have e2 := V.int.inj e
      exact ⟨i, rfl, bk_yes c ⟨xno z, by omega⟩⟩
theorem gt_no {q m s h t : Nat} (hq : 0 < q) (hs : s < 2 ^ q) (hh : h < 2 ^ q) (b : decide ((gtO q m s h t).getD .non = V.int (t : Nat)) = false) : bkF q m (h ^^^ s) t = none := by
  have e := of_decide_eq_false b
  unfold gtO at e
  cases c : duF q m (h ^^^ s) t with
  | none => exact bk_no c
  | some i =>
    rw [c] at e
    by_cases z : h = s
    · exact bk_not c (fun y => y.1 (by rw [z, Nat.xor_self]))
    · refine bk_not c (fun y => e ?_)
      simp only [if_neg z]
      show V.int _ = V.int _
      rw [y.2]
theorem op_subE {X : Cx} : OpR X (binaryOp .Sub) (fun x y H Q => ∃ i j k : Int, x = .int i ∧ y = .int j ∧ i - j = k ∧ Q (.int k) H) := by
  intro pins s σ H x y v u Q I rx ry h
  obtain ⟨i, j, k, rfl, rfl, rfl, q⟩ := h
  exact op_sub pins s σ H _ _ v u Q I rx ry ⟨i, j, rfl, rfl, q⟩
def gvF (q m s t n : Nat) : Nat := ((List.range n).filter fun h => (bkF q m (h ^^^ s) t).isSome).length
theorem gv_succ (q m s t n : Nat) : gvF q m s t (n + 1) = gvF q m s t n + (if (bkF q m (n ^^^ s) t).isSome = true then 1 else 0) := by
  unfold gvF
  rw [List.range_succ, List.filter_append, List.length_append]
  by_cases c : (bkF q m (n ^^^ s) t).isSome = true
  · simp [c]
  · simp [c]
theorem gv_add {q m s t n : Nat} : gvF q m s t n + (gvF q m s t (n + 1) - gvF q m s t n) = gvF q m s t (n + 1) := by
  have := gv_succ q m s t n
  omega
theorem gv_v {q m s t n be : Nat} {H : Hp} {v : V} (r : PrO H v ((bkF q m (n ^^^ s) t).map fun l => (be, l))) : V.int (if (!decide (v = .non)) = true then 1 else 0) = V.int ((gvF q m s t (n + 1) - gvF q m s t n : Nat) : Int) := by
  rw [gv_succ]
  cases e : bkF q m (n ^^^ s) t with
  | none =>
    rw [e] at r
    have r : v = .non := r
    rw [r]
    simp
  | some l =>
    rw [e] at r
    obtain ⟨p, rfl, _⟩ := r
    simp
theorem gv_le (q m s t n : Nat) : gvF q m s t n ≤ n := by
  unfold gvF
  exact Nat.le_trans (List.length_filter_le _ _) (by rw [List.length_range]; exact Nat.le_refl n)
def toF (q m s : Nat) : Nat → Nat
  | 0 => 0
  | u + 1 => toF q m s u + gvF q m s (m - 1 + q - 1 - u) (2 ^ q)
theorem gv_any {q m s t : Nat} (hs : s < 2 ^ q) : gvF q m s t (2 ^ q) = gvF q m 0 t (2 ^ q) := by
  have h := (xor_perm hs).filter (fun d => (bkF q m d t).isSome)
  have h2 := h.length_eq
  rw [List.filter_map, List.length_map] at h2
  unfold gvF
  rw [show (fun h => (bkF q m (h ^^^ s) t).isSome) = (fun d => (bkF q m d t).isSome) ∘ (· ^^^ s) from rfl, h2]
  simp only [Nat.xor_zero]
theorem to_any {q m s : Nat} (hs : s < 2 ^ q) : ∀ u, toF q m s u = toF q m 0 u
  | 0 => rfl
  | u + 1 => by
    show toF q m s u + gvF q m s _ (2 ^ q) = toF q m 0 u + gvF q m 0 _ (2 ^ q)
    rw [to_any hs u, gv_any hs]
theorem to_all : ∀ q, q < 5 → ∀ m, m < 10 → 0 < q → 0 < m → toF q m 0 (m - 1 + q) = m * (2 ^ q - 1) := by decide +kernel
theorem prs_dp {K : PySem.W.Frag} {H : Hp} {o : Option (Nat × Nat)} : ∀ ws : List V, (∀ w ∈ ws, PrO H w o) → DpAll K H ws (List.replicate ws.length (oD o))
  | [], _ => .nil
  | w :: ws, h => .cons (h w List.mem_cons_self).dp (prs_dp ws fun x hx => h x (List.mem_cons_of_mem _ hx))
theorem oks {d : PyData} {n : Nat} (h : Okd d) (hn : n ≤ 3) : (PyData.list (List.replicate n d)).showable = true ∧ (PyData.list (List.replicate n d)).hasDict = false ∧ (PyData.list (List.replicate n d)).depth < 60 ∧ (PyData.list (List.replicate n d)).shown.length ≤ sizeLine :=
  okd_list (fun x hx => by rw [List.eq_of_mem_replicate hx]; exact h) (by rw [List.length_replicate]; omega)
theorem okB {q m d t be : Nat} (hq : 0 < q) (hq6 : q ≤ 60) (hm : 0 < m) (hm2 : m ≤ 9) (hbe : be < 2 ^ q) : Okd (oD ((bkF q m d t).map fun l => (be, l))) := by
  refine oD_ok fun ab e => ?_
  cases c : bkF q m d t with
  | none => rw [c] at e; cases e
  | some l =>
    rw [c] at e
    cases e
    have hl : l < m := by
      cases c2 : duF q m d t with
      | none => rw [bk_no c2] at c; cases c
      | some i =>
        by_cases z : d ≠ 0 ∧ snF q m d i = t
        · rw [bk_yes c2 z] at c
          rw [← Option.some.inj c]
          exact du_lt hm c2
        · rw [bk_not c2 z] at c
          cases c
    exact ⟨Nat.lt_of_lt_of_le hbe (Nat.pow_le_pow_right (by decide) (by omega)), by show l < 2 ^ 61; omega⟩
section
variable {P : Program} {w : World} {K : PySem.W.Frag} {mg : Str → Option Value} {base : Heap} {f fT fDu fBt fBh fFs fBr fRi : Addr} {fd fdT fdDu fdBt fdBh fdFs fdBr fdRi : FuncData} {k : Nat} {Pt : Addr} {dB dH : List Value}
structure Bk (P : Program) (w : World) (K : PySem.W.Frag) (mg : Str → Option Value) (base : Heap) (Pt : Addr) (fDu fBt fBh : Addr) (fdDu fdBt fdBh : FuncData) (dB dH : List Value) : Prop where
  GD : FnOk P w K mg base CX0 1 fDu fdDu ["_law_size", "_law_count", "_law_spot", "_law_t", "_law_origin"] spLdue
  kD : PySem.W.keepIn K (.ref fDu) = true
  bD : Binds K fdDu ["_law_size", "_law_count", "_law_spot", "_law_t", "_law_origin"] []
  gD : mg "_law_due" = some (.ref fDu)
  GB : FnOk P w K mg base CX0 11 fBt fdBt ["q", "m", "hand", "u", "source"] (spBt Pt)
  kB : PySem.W.keepIn K (.ref fBt) = true
  qB : KBinds K fdBt ["q", "m", "hand", "u", "source"] ["source"] g4 g4
  nB : KBinds K fdBt ["q", "m", "hand", "u", "source"] ["u", "hand", "m", "q", "source"] (gP [3, 2, 1, 0, 4]) (gP [3, 2, 1, 0, 4])
  vB : Vals [.int 0] dB
  dB : Binds K fdBt ["q", "m", "hand", "u", "source"] dB
  gB : mg "back_told" = some (.ref fBt)
  GH : FnOk P w K mg base CX0 12 fBh fdBh ["q", "m", "hand", "u", "source"] (spBh Pt)
  kH : PySem.W.keepIn K (.ref fBh) = true
  qH : KBinds K fdBh ["q", "m", "hand", "u", "source"] ["source"] g4 g4
  nH : KBinds K fdBh ["q", "m", "hand", "u", "source"] ["u", "hand", "m", "q", "source"] (gP [3, 2, 1, 0, 4]) (gP [3, 2, 1, 0, 4])
  vH : Vals [.int 0] dH
  dH : Binds K fdBh ["q", "m", "hand", "u", "source"] dH
  gH : mg "back_heard" = some (.ref fBh)
  rp : mg "repr" = none
  ml : mg "len" = none
  mi : mg "int" = none
  mr : mg "range" = none
/-! ### beat_right -/
theorem scBr : FnScope ["_law_size", "_law_count", "_law_origin", "_law_firsts_here", "_law_back", "_law_t", "_law_given", "_law_spot", "_law_beyond", "_law_letter", "_law_due_here", "_law_found"] ["_law_size", "_law_count", "_law_origin", "_law_firsts_here", "_law_back"] (defScope sBr) := ⟨rfl, rfl, rfl, by decide +kernel, rfl, by decide +kernel, by decide +kernel⟩
def spBr (Pt : Addr) : Sp := fun vs H Q _ => ∃ (q m s u : Nat) (D : Addr) (kvs : List (List Key × V)), vs = [.int q, .int m, .int s, .ref D, .int u] ∧ 0 < q ∧ q ≤ 4 ∧ 0 < m ∧ m ≤ 9 ∧ s < 2 ^ q ∧ u < m - 1 + q ∧ H D = some (.dT kvs) ∧ Fst q m s (m - 1 + q) 0 kvs ∧ Tabs [(Pt, lamNm)] H ∧ ∀ H', ExtN H H' → Tabs [(Pt, lamNm)] H' → Q (.int (gvF q m s (m - 1 + q - 1 - u) (2 ^ q) : Nat)) H'
theorem ok_br (F : Fun K "_law_beat_right" "_law_beat_right" sBr f fd) (B : Bk P w K mg base Pt fDu fBt fBh fdDu fdBt fdBh dB dH) : FnG P w K mg base 13 f fd ["_law_size", "_law_count", "_law_origin", "_law_firsts_here", "_law_back"] (spBr Pt) := by
  refine fnG_of F scBr (fun vs H Q E h => ?_) (fun cdv A outer s H vs Q E gd hr h => ?_)
  · obtain ⟨a, b, c, d, e, g, rfl, _⟩ := h
    rfl
  · obtain ⟨q, m, s0, u, D, kvs, rfl, hq, hq4, hm, hm2, hs, hu2, eD, f1, hT, fin⟩ := h
    have hu : (A.deeper (envOfC "_law_beat_right" (defScope sBr) s.heap.objs.size f cdv)).units + 1 < cLine := by have := hr.un; omega
    refine ⟨_, pss_cons (ps_par (i := 5) (j := 6) (by rfl) scBr.nd rfl rfl (by decide) rfl rfl (pa_cons (pe_op op_subE (pe_op op_add (pe_op op_sub (pv 1) pe_int) (pv 0)) (pv 4)) (pa_cons pe_int pa_nil)) (by rfl))
      (pss_cons (ps_for PassesOwn.never rfl (pi_range1 (by rfl) B.mr (pa_cons (pe_op op_bit pe_int (pv 0)) pa_nil)) (pg_name (i := 7) scBr.nd rfl (.inl rfl))
          (pss_cons (ps_par (i := 8) (j := 9) (by rfl) scBr.nd rfl rfl (by decide) rfl rfl (pa_cons (pe_op op_xorN (pv 7) (pe_op op_bit pe_int (pe_op op_modNN (pv 5) (pv 0)))) (pa_cons (pe_call B.GD (hr.mono (by decide)) (by rfl) B.gD B.kD B.bD .nil pass0 (pa_cons (pv 0) (pa_cons (pv 1) (pa_cons (pv 7) (pa_cons (pv 5) (pa_cons (pv 2) pa_nil)))))) pa_nil)) (by rfl))
          (pss_cons (ps_set (i := 10) scBr.nd rfl (.inl rfl) (pe_ifExp (pt_cmpR op_eq (pe_getN hu (pv 3) (pe_tup (pa_cons (pv 7) (pa_cons (pv 9) pa_nil))) pe_non ⟨rfl, rfl, rfl, rfl⟩) (pv 5) (nomark _)) (pe_tup (pa_cons (pv 8) (pa_cons (pv 9) pa_nil))) pe_non))
          (pss_cons (ps_set (i := 11) scBr.nd rfl (.inl rfl) (pe_lst (pa_cons (pe_callK B.GB (hr.mono (by decide)) (by rfl) B.gB B.kB B.qB pass0 (pa_cons (pv 0) (pa_cons (pv 1) (pa_cons (pv 7) (pa_cons (pv 4) pa_nil)))) (pk_cons (pv 2) pk_nil)) pa_nil)))
          (pss_cons (ps_expr (pe_bm PySem.F.plainAttrs_list PySem.F.slot_list_append PySem.F.type_list_append mt_append (pv 11) (pa_cons (pe_callK0 B.GB (hr.mono (by decide)) (by rfl) B.gB B.kB B.nB pass0 (pk_cons (pv 4) (pk_cons (pv 7) (pk_cons (pv 1) (pk_cons (pv 0) (pk_cons (pv 2) pk_nil)))))) pa_nil)))
          (pss_cons (ps_if (pt_cmpR op_eq (pv 2) pe_int (nomark _)) (pss_one (ps_expr (pe_bm PySem.F.plainAttrs_list PySem.F.slot_list_append PySem.F.type_list_append mt_append (pv 11) (pa_cons (pe_call B.GB (hr.mono (by decide)) (by rfl) B.gB B.kB B.dB B.vB pass0 (pa_cons (pv 0) (pa_cons (pv 1) (pa_cons (pv 7) (pa_cons (pv 4) pa_nil))))) pa_nil)))) pss_nil)
          (pss_cons (ps_if (pt_cmpR op_ne (pe_callB (call_reprA gd hr.units) (by rfl) B.rp (by decide +kernel) (pa_cons (pv 11) pa_nil)) (pe_callB (call_reprA gd hr.units) (by rfl) B.rp (by decide +kernel) (pa_cons (pe_op op_rep (pe_lst (pa_cons (pv 10) pa_nil)) (pe_callB call_len_seq (by rfl) B.ml PySem.boot_len (pa_cons (pv 11) pa_nil))) pa_nil)) (nomark _)) (pss_one (ps_ret pe_non)) pss_nil)
          (pss_cons (ps_set (i := 6) scBr.nd rfl (.inl rfl) (pe_op op_addN (pv 6) (pe_callTy call_int1 (by rfl) B.mi (by decide +kernel) (pa_cons (pe_cmp (pc_notN (pv 10))) pa_nil))))
          (pss_cons (ps_set (i := 9) scBr.nd rfl (.inl rfl) (pe_call B.GD (hr.mono (by decide)) (by rfl) B.gD B.kD B.bD .nil pass0 (pa_cons (pv 0) (pa_cons (pv 1) (pa_cons (pv 8) (pa_cons (pv 5) (pa_cons (pv 2) pa_nil)))))))
          (pss_cons (ps_set (i := 10) scBr.nd rfl (.inl rfl) (pe_ifExp (pt_cmpR op_eq (pe_getN hu (pv 3) (pe_tup (pa_cons (pv 8) (pa_cons (pv 9) pa_nil))) pe_non ⟨rfl, rfl, rfl, rfl⟩) (pv 5) (nomark _)) (pe_tup (pa_cons (pv 8) (pa_cons (pv 9) pa_nil))) pe_non))
          (pss_cons (ps_set (i := 11) scBr.nd rfl (.inl rfl) (pe_lst (pa_cons (pe_callK B.GH (hr.mono (by decide)) (by rfl) B.gH B.kH B.qH pass0 (pa_cons (pv 0) (pa_cons (pv 1) (pa_cons (pv 7) (pa_cons (pv 4) pa_nil)))) (pk_cons (pv 2) pk_nil)) pa_nil)))
          (pss_cons (ps_expr (pe_bm PySem.F.plainAttrs_list PySem.F.slot_list_append PySem.F.type_list_append mt_append (pv 11) (pa_cons (pe_callK0 B.GH (hr.mono (by decide)) (by rfl) B.gH B.kH B.nH pass0 (pk_cons (pv 4) (pk_cons (pv 7) (pk_cons (pv 1) (pk_cons (pv 0) (pk_cons (pv 2) pk_nil)))))) pa_nil)))
          (pss_cons (ps_if (pt_cmpR op_eq (pv 2) pe_int (nomark _)) (pss_one (ps_expr (pe_bm PySem.F.plainAttrs_list PySem.F.slot_list_append PySem.F.type_list_append mt_append (pv 11) (pa_cons (pe_call B.GH (hr.mono (by decide)) (by rfl) B.gH B.kH B.dH B.vH pass0 (pa_cons (pv 0) (pa_cons (pv 1) (pa_cons (pv 7) (pa_cons (pv 4) pa_nil))))) pa_nil)))) pss_nil)
          (pss_one (ps_if (pt_cmpR op_ne (pe_callB (call_reprA gd hr.units) (by rfl) B.rp (by decide +kernel) (pa_cons (pv 11) pa_nil)) (pe_callB (call_reprA gd hr.units) (by rfl) B.rp (by decide +kernel) (pa_cons (pe_op op_rep (pe_lst (pa_cons (pv 10) pa_nil)) (pe_callB call_len_seq (by rfl) B.ml PySem.boot_len (pa_cons (pv 11) pa_nil))) pa_nil)) (nomark _)) (pss_one (ps_ret pe_non)) pss_nil)))))))))))))))
      (pss_one (ps_ret (pv 6)))), ?_⟩
    obtain ⟨t, et⟩ : ∃ t : Nat, m - 1 + q - 1 - u = t := ⟨_, rfl⟩
    rw [et] at fin
    have eu : ((m - 1 + q : Nat) : Int) - 1 - ((u : Nat) : Int) = (t : Int) := by omega
    have hq6 : q ≤ 60 := by omega
    have h16 : 2 ^ q ≤ 16 := Nat.pow_le_pow_right (n := 2) (by decide) hq4
    refine ⟨.int m, rfl, _, _, rfl, rfl, .int q, rfl, _, _, rfl, rfl, .int (u : Nat), rfl, _, _, ((t : Nat) : Int), rfl, rfl, by omega, _, _, rfl, ?_⟩
    refine ⟨.int q, rfl, q, rfl, rfl, by omega, _, rfl, by omega, by omega, for_range (lo := 0) (n := 2 ^ q) (fun n σ H' => ∃ y7 y8 y9 ya yb, σ = [some (.int q), some (.int m), some (.int s0), some (.ref D), some (.int (u : Nat)), some (.int (t : Nat)), some (.int (gvF q m s0 t n : Nat)), y7, y8, y9, ya, yb] ∧ ExtN H H' ∧ Tabs [(Pt, lamNm)] H') ⟨none, none, none, none, none, rfl, ExtN.refl H, hT⟩ ?_ ?_⟩
    · rintro h σ H2 hh ⟨y7, y8, y9, ya, yb, rfl, x2, T2⟩
      rw [show (0 : Int) + (h : Int) = ((h : Nat) : Int) by omega]
      have hh : h < 2 ^ q := by omega
      have hk : t % q < q := Nat.mod_lt _ hq
      obtain ⟨be, ebe⟩ : ∃ be, h ^^^ 2 ^ (t % q) = be := ⟨_, rfl⟩
      have hbe : be < 2 ^ q := by
        rw [← ebe]
        exact Nat.xor_lt_two_pow hh (Nat.pow_lt_pow_right (by decide) hk)
      refine ⟨.int (h : Nat), rfl, .int (t : Nat), rfl, .int q, rfl, t, q, rfl, rfl, hq, t % q, rfl, rfl, by omega, h, 2 ^ (t % q), rfl, rfl, .int q, rfl, .int m, rfl, .int (h : Nat), rfl, .int (t : Nat), rfl, .int s0, rfl, q, m, h, t, s0, rfl, hq, hm, _, _, rfl, ?_⟩
      rw [ebe]
      · skip
        dsimp only [gName, tSeq, tAsg]
        refine rd_ifQ (decide ((gtO q m s0 h t).getD .non = V.int (t : Nat))) (fun H' => ExtN H2 H' ∧ Tabs [(Pt, lamNm)] H') (fun v H' => ExtN H2 H' ∧ Tabs [(Pt, lamNm)] H' ∧ PrO H' v ((bkF q m (h ^^^ s0) t).map fun l => (be, l))) ?_ ?_ ?_ ?_
        · intro Q' z
          have eD' := x2 _ _ eD (fun ps z => nomatch z)
          refine ⟨.ref D, rfl, D, rfl, .inr ⟨kvs, .inl eD'⟩, .int (h : Nat), rfl, oV (duF q m (h ^^^ s0) t), rfl, (by show 2 ≤ sizeLine; decide), fun p np => ⟨_, get_at hq hm hs f1 hh (by rw [upd_ne (ne_of_none eD' np)]; exact eD') upd_same, .int (t : Nat), rfl, gt_scal _ _ _ _ _, _, rfl, z _ ⟨ext_new (ExtN.refl _) np, tabs_new (by assumption) np⟩⟩⟩
        · rintro b H' ⟨xz, Tz⟩ Q' z
          obtain ⟨i, ei, eb⟩ := gt_yes b
          refine ⟨.int (be : Nat), rfl, oV (duF q m (h ^^^ s0) t), rfl, (by show 2 ≤ sizeLine; decide), fun p np => z _ _ ⟨ext_new xz np, tabs_new Tz np, ?_⟩⟩
          rw [eb, ei]
          exact ⟨p, rfl, upd_same⟩
        · rintro b H' ⟨xz, Tz⟩ Q' z
          refine z _ _ ⟨xz, Tz, ?_⟩
          rw [gt_no hq hs hh b]
          rfl
        · rintro v H3 ⟨x3', T3, rv3⟩
          have x3 := x2.trans x3'
          clear x3'
          have hok : Okd (oD ((bkF q m (h ^^^ s0) t).map fun l => (be, l))) := okB hq hq6 hm hm2 hbe
          refine ⟨.int q, rfl, .int m, rfl, .int (h : Nat), rfl, .int (u : Nat), rfl, .int s0, rfl, q, m, h, t, s0, (u : Int), rfl, hq, hq6, hm, hh, hs, eu, T3, fun HA w1 xA TA r1 => ?_⟩
          rw [ebe] at r1
          refine ⟨(by show 1 ≤ sizeLine; decide), fun L nL => ?_⟩
          have eL : (upd HA L (.lst [w1])) L = some (.lst [w1]) := upd_same
          have xB : ExtN H3 (upd HA L (.lst [w1])) := ext_new xA nL
          have TB := tabs_new (o := .lst [w1]) TA nL
          have r1 := r1.ext (ext_new (ExtN.refl HA) nL (o := .lst [w1]))
          have nL0 : ∀ b o, H3 b = some o → (∀ ps, o ≠ .tbl ps) → b ≠ L := fun b o e t' => ne_of_none (xA b o e t') nL
          generalize upd HA L (.lst [w1]) = HB at *
          refine ⟨.ref L, rfl, .inl ⟨rfl, _, .inl (.inl eL)⟩, .int (u : Nat), rfl, .int (h : Nat), rfl, .int m, rfl, .int q, rfl, .int s0, rfl, q, m, h, t, s0, (u : Int), rfl, hq, hq6, hm, hh, hs, eu, TB, fun HC w2 xC TC r2 => ?_⟩
          rw [ebe] at r2
          have eLC := xC _ _ eL (fun ps z => nomatch z)
          refine ⟨L, _, _, rfl, rfl, eLC, small1000 (by show 1 ≤ 1000; decide), ?_⟩
          have xD : ExtN H3 (upd HC L (.lst ([w1] ++ [w2]))) := fun b o e t' => by
            rw [upd_ne (nL0 b o e t')]
            exact xC b o (xB b o e t') t'
          have TD := tabs_upd (ys := [w1] ++ [w2]) TC eLC
          have eLD : (upd HC L (.lst ([w1] ++ [w2]))) L = some (.lst [w1, w2]) := upd_same
          have r1 := (r1.ext xC).upd' (l' := [w1] ++ [w2]) eLC
          have r2 := r2.upd' (l' := [w1] ++ [w2]) eLC
          generalize upd HC L (.lst ([w1] ++ [w2])) = HD at *
          dsimp only [gName, tSeq]
          refine rd_ifX (decide (V.int (s0 : Nat) = V.int 0)) (fun H' => ∃ ws : List V, 2 ≤ ws.length ∧ ws.length ≤ 3 ∧ H' L = some (.lst ws) ∧ (∀ w' ∈ ws, PrO H' w' ((bkF q m (h ^^^ s0) t).map fun l => (be, l))) ∧ ExtN H3 H' ∧ Tabs [(Pt, lamNm)] H') ?_ ?_ ?_ ?_
          · exact fun Q' z => ⟨.int s0, rfl, rfl, _, rfl, z⟩
          · intro b Q' z
            have e0 : s0 = 0 := by have := V.int.inj (of_decide_eq_true b); omega
            refine ⟨.ref L, rfl, .inl ⟨rfl, _, .inl (.inl eLD)⟩, .int q, rfl, .int m, rfl, .int (h : Nat), rfl, .int (u : Nat), rfl, q, m, h, t, 0, (u : Int), rfl, hq, hq6, hm, hh, Nat.two_pow_pos q, eu, TD, fun HE w3 xE TE r3 => ?_⟩
            rw [ebe] at r3
            have eLE := xE _ _ eLD (fun ps z => nomatch z)
            refine ⟨L, _, _, rfl, rfl, eLE, small1000 (by show 2 ≤ 1000; decide), z _ _ ⟨[w1, w2, w3], (by show 2 ≤ 3; decide), (by show 3 ≤ 3; decide), upd_same, fun w' hw => ?_, fun b o e t' => ?_, tabs_upd TE eLE⟩⟩
            · simp only [List.mem_cons, List.not_mem_nil, or_false] at hw
              rw [← e0] at r3
              rcases hw with rfl | rfl | rfl
              · exact (r1.ext xE).upd' eLE
              · exact (r2.ext xE).upd' eLE
              · exact r3.upd' eLE
            · rw [upd_ne (nL0 b o e t')]
              exact xE b o (xD b o e t') t'
          · intro b
            refine ⟨[w1, w2], (by show 2 ≤ 2; decide), (by show 2 ≤ 3; decide), eLD, fun w' hw => ?_, xD, TD⟩
            simp only [List.mem_cons, List.not_mem_nil, or_false] at hw
            rcases hw with rfl | rfl
            · exact r1
            · exact r2
          · rintro HE ⟨ws, hc1, hc2, eLE, rws, xE, TE⟩
            have rv := rv3.ext xE
            have ok := oks hok hc2
            refine ⟨.ref L, rfl, .inr ⟨L, _, rfl, .lst (.inl (.inl eLE)) (prs_dp ws rws), ok.1, ok.2.1, ok.2.2.1, ok.2.2.2, v, rfl, (by show 1 ≤ sizeLine; decide), fun p np => ?_⟩⟩
            have eLp : (upd HE p (.lst [v])) L = some (.lst ws) := by rw [upd_ne (ne_of_none eLE np)]; exact eLE
            refine ⟨.ref L, rfl, L, _, rfl, .inl (.inl (.inl eLp)), p, _, _, rfl, rfl, upd_same, by omega, by omega, ?_, fun p2 np2 => ?_⟩
            · have : sizeLine = 16777216 := rfl
              show 1 * (ws.length : Int).toNat ≤ sizeLine
              omega
            have el : (List.replicate (ws.length : Int).toNat [v]).flatten = List.replicate ws.length v := by
              rw [Int.toNat_natCast]
              rcases (show ws.length = 2 ∨ ws.length = 3 by omega) with e | e <;> rw [e] <;> rfl
            rw [el]
            have xF : ExtN HE (upd (upd HE p (.lst [v])) p2 (.lst (List.replicate ws.length v))) := ext_new (ext_new (ExtN.refl HE) np) np2
            have TF := tabs_new (o := .lst (List.replicate ws.length v)) (tabs_new (o := .lst [v]) TE np) np2
            have dF := prs_dp (K := K) (H := upd (upd HE p (.lst [v])) p2 (.lst (List.replicate ws.length v))) (o := (bkF q m (h ^^^ s0) t).map fun l => (be, l)) (List.replicate ws.length v) (fun w' hw => by rw [List.eq_of_mem_replicate hw]; exact rv.ext xF)
            rw [List.length_replicate] at dF
            refine .inr ⟨p2, _, rfl, .lst (.inl (.inl upd_same)) dF, ok.1, ok.2.1, ok.2.2.1, ok.2.2.2, rfl, _, rfl, ?_⟩
            rw [decide_eq_true rfl]
            refine iteF ?_
            have rvF := rv.ext xF
            have xG := x3.trans (xE.trans xF)
            generalize upd (upd HE p (.lst [v])) p2 (.lst (List.replicate ws.length v)) = HF at *
            clear xA xB xC xD xE xF TA TB TC TD TE r1 r2 eL eLC eLD eLE eLp nL0 nL np np2 el dF rws rv rv3 T3 x3 ok
            have hgv := gv_v (q := q) (m := m) (s := s0) (t := t) (n := h) rvF
            refine ⟨.int (gvF q m s0 t h : Nat), rfl, v, rfl, .inr ⟨_, rfl, gvF q m s0 t h, (gvF q m s0 t (h + 1) - gvF q m s0 t h), rfl, hgv, ?_⟩⟩
            rw [gv_add]
            clear hgv rvF hok
            refine ⟨.int q, rfl, .int m, rfl, .int (be : Nat), rfl, .int (t : Nat), rfl, .int s0, rfl, q, m, be, t, s0, rfl, hq, hm, ?_⟩
            dsimp only [gName, tSeq, tAsg]
            refine rd_ifQ (decide ((gtO q m s0 be t).getD .non = V.int (t : Nat))) (fun H' => ExtN HF H' ∧ Tabs [(Pt, lamNm)] H') (fun v H' => ExtN HF H' ∧ Tabs [(Pt, lamNm)] H' ∧ PrO H' v ((bkF q m (be ^^^ s0) t).map fun l => (be, l))) ?_ ?_ ?_ ?_
            · intro Q' z
              have eD' := xG _ _ eD (fun ps z => nomatch z)
              refine ⟨.ref D, rfl, D, rfl, .inr ⟨kvs, .inl eD'⟩, .int (be : Nat), rfl, oV (duF q m (be ^^^ s0) t), rfl, (by show 2 ≤ sizeLine; decide), fun p np => ⟨_, get_at hq hm hs f1 hbe (by rw [upd_ne (ne_of_none eD' np)]; exact eD') upd_same, .int (t : Nat), rfl, gt_scal _ _ _ _ _, _, rfl, z _ ⟨ext_new (ExtN.refl _) np, tabs_new (by assumption) np⟩⟩⟩
            · rintro b H' ⟨xz, Tz⟩ Q' z
              obtain ⟨i, ei, eb⟩ := gt_yes b
              refine ⟨.int (be : Nat), rfl, oV (duF q m (be ^^^ s0) t), rfl, (by show 2 ≤ sizeLine; decide), fun p np => z _ _ ⟨ext_new xz np, tabs_new Tz np, ?_⟩⟩
              rw [eb, ei]
              exact ⟨p, rfl, upd_same⟩
            · rintro b H' ⟨xz, Tz⟩ Q' z
              refine z _ _ ⟨xz, Tz, ?_⟩
              rw [gt_no hq hs hbe b]
              rfl
            · rintro v H4 ⟨x4', T4, rv4⟩
              have x4 := xG.trans x4'
              clear x4' xG TF
              have hok : Okd (oD ((bkF q m (be ^^^ s0) t).map fun l => (be, l))) := okB hq hq6 hm hm2 hbe
              refine ⟨.int q, rfl, .int m, rfl, .int (h : Nat), rfl, .int (u : Nat), rfl, .int s0, rfl, q, m, h, t, s0, (u : Int), rfl, hq, hq6, hm, hh, hs, eu, T4, fun HA w1 xA TA r1 => ?_⟩
              rw [ebe] at r1
              refine ⟨(by show 1 ≤ sizeLine; decide), fun L nL => ?_⟩
              have eL : (upd HA L (.lst [w1])) L = some (.lst [w1]) := upd_same
              have xB : ExtN H4 (upd HA L (.lst [w1])) := ext_new xA nL
              have TB := tabs_new (o := .lst [w1]) TA nL
              have r1 := r1.ext (ext_new (ExtN.refl HA) nL (o := .lst [w1]))
              have nL0 : ∀ b o, H4 b = some o → (∀ ps, o ≠ .tbl ps) → b ≠ L := fun b o e t' => ne_of_none (xA b o e t') nL
              generalize upd HA L (.lst [w1]) = HB at *
              refine ⟨.ref L, rfl, .inl ⟨rfl, _, .inl (.inl eL)⟩, .int (u : Nat), rfl, .int (h : Nat), rfl, .int m, rfl, .int q, rfl, .int s0, rfl, q, m, h, t, s0, (u : Int), rfl, hq, hq6, hm, hh, hs, eu, TB, fun HC w2 xC TC r2 => ?_⟩
              rw [ebe] at r2
              have eLC := xC _ _ eL (fun ps z => nomatch z)
              refine ⟨L, _, _, rfl, rfl, eLC, small1000 (by show 1 ≤ 1000; decide), ?_⟩
              have xD : ExtN H4 (upd HC L (.lst ([w1] ++ [w2]))) := fun b o e t' => by
                rw [upd_ne (nL0 b o e t')]
                exact xC b o (xB b o e t') t'
              have TD := tabs_upd (ys := [w1] ++ [w2]) TC eLC
              have eLD : (upd HC L (.lst ([w1] ++ [w2]))) L = some (.lst [w1, w2]) := upd_same
              have r1 := (r1.ext xC).upd' (l' := [w1] ++ [w2]) eLC
              have r2 := r2.upd' (l' := [w1] ++ [w2]) eLC
              generalize upd HC L (.lst ([w1] ++ [w2])) = HD at *
              dsimp only [gName, tSeq]
              refine rd_ifX (decide (V.int (s0 : Nat) = V.int 0)) (fun H' => ∃ ws : List V, 2 ≤ ws.length ∧ ws.length ≤ 3 ∧ H' L = some (.lst ws) ∧ (∀ w' ∈ ws, PrO H' w' ((bkF q m (be ^^^ s0) t).map fun l => (be, l))) ∧ ExtN H4 H' ∧ Tabs [(Pt, lamNm)] H') ?_ ?_ ?_ ?_
              · exact fun Q' z => ⟨.int s0, rfl, rfl, _, rfl, z⟩
              · intro b Q' z
                have e0 : s0 = 0 := by have := V.int.inj (of_decide_eq_true b); omega
                refine ⟨.ref L, rfl, .inl ⟨rfl, _, .inl (.inl eLD)⟩, .int q, rfl, .int m, rfl, .int (h : Nat), rfl, .int (u : Nat), rfl, q, m, h, t, 0, (u : Int), rfl, hq, hq6, hm, hh, Nat.two_pow_pos q, eu, TD, fun HE w3 xE TE r3 => ?_⟩
                rw [ebe] at r3
                have eLE := xE _ _ eLD (fun ps z => nomatch z)
                refine ⟨L, _, _, rfl, rfl, eLE, small1000 (by show 2 ≤ 1000; decide), z _ _ ⟨[w1, w2, w3], (by show 2 ≤ 3; decide), (by show 3 ≤ 3; decide), upd_same, fun w' hw => ?_, fun b o e t' => ?_, tabs_upd TE eLE⟩⟩
                · simp only [List.mem_cons, List.not_mem_nil, or_false] at hw
                  rw [← e0] at r3
                  rcases hw with rfl | rfl | rfl
                  · exact (r1.ext xE).upd' eLE
                  · exact (r2.ext xE).upd' eLE
                  · exact r3.upd' eLE
                · rw [upd_ne (nL0 b o e t')]
                  exact xE b o (xD b o e t') t'
              · intro b
                refine ⟨[w1, w2], (by show 2 ≤ 2; decide), (by show 2 ≤ 3; decide), eLD, fun w' hw => ?_, xD, TD⟩
                simp only [List.mem_cons, List.not_mem_nil, or_false] at hw
                rcases hw with rfl | rfl
                · exact r1
                · exact r2
              · rintro HE ⟨ws, hc1, hc2, eLE, rws, xE, TE⟩
                have rv := rv4.ext xE
                have ok := oks hok hc2
                refine ⟨.ref L, rfl, .inr ⟨L, _, rfl, .lst (.inl (.inl eLE)) (prs_dp ws rws), ok.1, ok.2.1, ok.2.2.1, ok.2.2.2, v, rfl, (by show 1 ≤ sizeLine; decide), fun p np => ?_⟩⟩
                have eLp : (upd HE p (.lst [v])) L = some (.lst ws) := by rw [upd_ne (ne_of_none eLE np)]; exact eLE
                refine ⟨.ref L, rfl, L, _, rfl, .inl (.inl (.inl eLp)), p, _, _, rfl, rfl, upd_same, by omega, by omega, ?_, fun p2 np2 => ?_⟩
                · have : sizeLine = 16777216 := rfl
                  show 1 * (ws.length : Int).toNat ≤ sizeLine
                  omega
                have el : (List.replicate (ws.length : Int).toNat [v]).flatten = List.replicate ws.length v := by
                  rw [Int.toNat_natCast]
                  rcases (show ws.length = 2 ∨ ws.length = 3 by omega) with e | e <;> rw [e] <;> rfl
                rw [el]
                have xF : ExtN HE (upd (upd HE p (.lst [v])) p2 (.lst (List.replicate ws.length v))) := ext_new (ext_new (ExtN.refl HE) np) np2
                have TF := tabs_new (o := .lst (List.replicate ws.length v)) (tabs_new (o := .lst [v]) TE np) np2
                have dF := prs_dp (K := K) (H := upd (upd HE p (.lst [v])) p2 (.lst (List.replicate ws.length v))) (o := (bkF q m (be ^^^ s0) t).map fun l => (be, l)) (List.replicate ws.length v) (fun w' hw => by rw [List.eq_of_mem_replicate hw]; exact rv.ext xF)
                rw [List.length_replicate] at dF
                refine .inr ⟨p2, _, rfl, .lst (.inl (.inl upd_same)) dF, ok.1, ok.2.1, ok.2.2.1, ok.2.2.2, rfl, _, rfl, ?_⟩
                rw [decide_eq_true rfl]
                refine iteF ?_
                have rvF := rv.ext xF
                have xG := x4.trans (xE.trans xF)
                generalize upd (upd HE p (.lst [v])) p2 (.lst (List.replicate ws.length v)) = HF at *
                clear xA xB xC xD xE xF TA TB TC TD TE r1 r2 eL eLC eLD eLE eLp nL0 nL np np2 el dF rws rv rv4 T4 x4 ok
                exact ⟨_, _, _, _, _, rfl, xG, TF⟩
    · rintro σ H2 ⟨y7, y8, y9, ya, yb, rfl, x2, T2⟩
      exact ⟨_, rfl, fin H2 x2 T2⟩
/-! ### right -/
theorem scRi : FnScope ["_law_pot_here", "_law_size", "_law_count", "_law_origin", "_law_firsts_here", "_law_total", "_law_back", "_law_given"] ["_law_pot_here"] (defScope sRi) := ⟨rfl, rfl, rfl, by decide +kernel, rfl, by decide +kernel, by decide +kernel⟩
def spRi (Pt : Addr) : Sp := fun vs H Q _ => ∃ (a : Addr) (n : Nat), vs = [.ref a] ∧ PotC H a n ∧ n < 100 ∧ Tabs [(Pt, lamNm)] H ∧ ∀ H', KT a H H' → Tabs [(Pt, lamNm)] H' → Q (.bl true) H'
theorem ok_ri (F : Fun K "_law_right" "_law_right" sRi f fd) (GT : FnOk P w K mg base CX0 1 fT fdT ["_law_pot_here", "_law_wide"] spTake) (kT : PySem.W.keepIn K (.ref fT) = true) (bT : Binds K fdT ["_law_pot_here", "_law_wide"] []) (gT : mg "_law_take" = some (.ref fT))
    (GFs : FnOk P w K mg base CX0 2 fFs fdFs ["_law_size", "_law_count", "_law_origin"] spFirsts) (kFs : PySem.W.keepIn K (.ref fFs) = true) (bFs : Binds K fdFs ["_law_size", "_law_count", "_law_origin"] []) (gFs : mg "_law_firsts" = some (.ref fFs))
    (GBr : FnG P w K mg base 13 fBr fdBr ["_law_size", "_law_count", "_law_origin", "_law_firsts_here", "_law_back"] (spBr Pt)) (kBr : PySem.W.keepIn K (.ref fBr) = true) (bBr : Binds K fdBr ["_law_size", "_law_count", "_law_origin", "_law_firsts_here", "_law_back"] []) (gBr : mg "_law_beat_right" = some (.ref fBr)) (mr : mg "range" = none) :
    FnG P w K mg base 14 f fd ["_law_pot_here"] (spRi Pt) := by
  refine fnG_of F scRi (fun vs H Q E h => ?_) (fun cdv A outer s H vs Q E gd hr h => ?_)
  · obtain ⟨a, b, rfl, _⟩ := h
    rfl
  · obtain ⟨a, n, rfl, pp, hn, hT, fin⟩ := h
    refine ⟨_, pss_cons (ps_par (i := 1) (j := 2) (by rfl) scRi.nd rfl rfl (by decide) rfl rfl (pa_cons (pe_op op_addN pe_int (pe_call GT (hr.mono (by decide)) (by rfl) gT kT bT .nil pass0 (pa_cons (pv 0) (pa_cons pe_int pa_nil)))) (pa_cons (pe_op op_addN pe_int (pe_call GT (hr.mono (by decide)) (by rfl) gT kT bT .nil pass0 (pa_cons (pv 0) (pa_cons pe_int pa_nil)))) pa_nil)) (by rfl))
      (pss_cons (ps_set (i := 3) scRi.nd rfl (.inl rfl) (pe_call GT (hr.mono (by decide)) (by rfl) gT kT bT .nil pass0 (pa_cons (pv 0) (pa_cons (pe_op op_bit pe_int (pv 1)) pa_nil))))
      (pss_cons (ps_par (i := 4) (j := 5) (by rfl) scRi.nd rfl rfl (by decide) rfl rfl (pa_cons (pe_call GFs (hr.mono (by decide)) (by rfl) gFs kFs bFs .nil pass0 (pa_cons (pv 1) (pa_cons (pv 2) (pa_cons (pv 3) pa_nil)))) (pa_cons pe_int pa_nil)) (by rfl))
      (pss_cons (ps_for PassesOwn.never rfl (pi_range1 (by rfl) mr (pa_cons (pe_op op_addN (pe_op op_subN (pv 2) pe_int) (pv 1)) pa_nil)) (pg_name (i := 6) scRi.nd rfl (.inl rfl))
        (pss_cons (ps_set (i := 7) scRi.nd rfl (.inl rfl) (pe_callG (E := E0) GBr gd (hr.mono (by decide)) (by rfl) gBr kBr bBr .nil (pa_cons (pv 1) (pa_cons (pv 2) (pa_cons (pv 3) (pa_cons (pv 4) (pa_cons (pv 6) pa_nil)))))))
        (pss_cons (ps_if (pt_cmp (pc_isN (pv 7))) (pss_one (ps_ret pe_bl)) pss_nil)
        (pss_one (ps_set (i := 5) scRi.nd rfl (.inl rfl) (pe_op op_addN (pv 5) (pv 7)))))))
      (pss_one (ps_ret (pe_cmpR op_eq (pv 5) (pe_op op_mulNN (pv 2) (pe_op op_subN (pe_op op_bit pe_int (pv 1)) pe_int)) (nomark _))))))), ?_⟩
    refine ⟨.ref a, rfl, a, 4, n, rfl, by decide, by decide, pp, by omega, fun r1 H1 l1 k1 p1 => ?_⟩
    refine ⟨1, r1, rfl, rfl, .ref a, rfl, a, 9, n + 1, rfl, by decide, by decide, p1, by omega, fun r2 H2 l2 k2 p2 => ?_⟩
    refine ⟨1, r2, rfl, rfl, _, _, rfl, ?_⟩
    obtain ⟨q, eq, hq, hq4⟩ : ∃ q, 1 + r1 = q ∧ 0 < q ∧ q ≤ 4 := ⟨_, rfl, by omega, by omega⟩
    obtain ⟨m, em, hm, hm2⟩ : ∃ m, 1 + r2 = m ∧ 0 < m ∧ m ≤ 9 := ⟨_, rfl, by omega, by omega⟩
    rw [eq, em]
    have h2q : 0 < 2 ^ q := Nat.two_pow_pos q
    have h16 : 2 ^ q ≤ 16 := Nat.pow_le_pow_right (n := 2) (by decide) hq4
    refine ⟨.ref a, rfl, .int q, rfl, q, rfl, rfl, by omega, a, 2 ^ q, n + 2, rfl, h2q, by omega, p2, by omega, fun s0 H3 hs k3 p3 => ?_⟩
    have K3 : Keeps a H H3 := (k1.trans k2).trans k3
    have T3 := tabs_keepsC pp hT K3
    refine ⟨.int q, rfl, .int m, rfl, .int s0, rfl, q, m, s0, rfl, hq, hq4, hm, by omega, hs, fun H4 D kvs s4 nD eD f4 => ⟨_, _, rfl, ?_⟩⟩
    have T4 := T3.ext s4
    have K4 : KT a H H4 := (KT.k K3).trans (KT.e (ExtN.of s4))
    refine ⟨.int m, rfl, m, 1, rfl, rfl, hm, .int q, rfl, m - 1, q, rfl, rfl, _, rfl, by omega, by omega, for_range (lo := 0) (n := m - 1 + q) (fun u σ H' => ∃ y6 y7, σ = [some (.ref a), some (.int q), some (.int m), some (.int s0), some (.ref D), some (.int (toF q m s0 u : Nat)), y6, y7] ∧ ExtN H4 H' ∧ Tabs [(Pt, lamNm)] H') ⟨none, none, rfl, ExtN.refl H4, T4⟩ ?_ ?_⟩
    · rintro u σ H5 hu ⟨y6, y7, rfl, x5, T5⟩
      rw [show (0 : Int) + (u : Int) = ((u : Nat) : Int) by omega]
      have hu : u < m - 1 + q := by omega
      refine ⟨.int q, rfl, .int m, rfl, .int s0, rfl, .ref D, rfl, .int (u : Nat), rfl, q, m, s0, u, D, kvs, rfl, hq, hq4, hm, hm2, hs, hu, x5 _ _ eD (fun ps z => nomatch z), f4, T5, fun H6 x6 T6 => ?_⟩
      refine ⟨_, rfl, _, rfl, iteF ?_⟩
      exact ⟨.int (toF q m s0 u : Nat), rfl, _, rfl, toF q m s0 u, _, rfl, rfl, _, _, rfl, x5.trans x6, T6⟩
    · rintro σ H5 ⟨y6, y7, rfl, x5, T5⟩
      have et : toF q m s0 (m - 1 + q) = m * (2 ^ q - 1) := by
        rw [to_any hs]
        exact to_all q (by omega) m (by omega) hq hm
      refine ⟨_, rfl, .int m, rfl, .int q, rfl, q, rfl, rfl, by omega, 2 ^ q, 1, rfl, rfl, h2q, m, 2 ^ q - 1, rfl, rfl, by omega, rfl, ?_⟩
      rw [et, decide_eq_true rfl]
      exact fin H5 (K4.trans (KT.e x5)) T5
/-! ### the law -/
theorem scLaw : FnScope ["_law_script", "_law_k"] ["_law_script"] (defScope sLaw) := ⟨rfl, rfl, rfl, by decide +kernel, rfl, by decide +kernel, by decide +kernel⟩
def spLaw (K : PySem.W.Frag) (Pt : Addr) : Sp := fun vs H Q _ => ∃ (a : Addr) (ns : List Int), vs = [.ref a] ∧ SqL K H a (ns.map V.int) ∧ ns.length ≤ 63 ∧ Tabs [(Pt, lamNm)] H ∧ ∀ H', Q (.bl true) H'
theorem ok_law {fP fRi : Addr} {fdP fdRi : FuncData} (F : Fun K "law" "law" sLaw f fd)
    (GP : FnOk P w K mg base CX0 1 fP fdP ["_law_script", "_law_k"] (spPot K)) (kP : PySem.W.keepIn K (.ref fP) = true) (bP : Binds K fdP ["_law_script", "_law_k"] []) (gP' : mg "_law_pot" = some (.ref fP))
    (GR : FnG P w K mg base 14 fRi fdRi ["_law_pot_here"] (spRi Pt)) (kR : PySem.W.keepIn K (.ref fRi) = true) (bR : Binds K fdRi ["_law_pot_here"] []) (gR : mg "_law_right" = some (.ref fRi)) (ml : mg "len" = none) (mr : mg "range" = none) (mn : mg "min" = none) (ma : mg "all" = none) :
    FnG P w K mg base 15 f fd ["_law_script"] (spLaw K Pt) := by
  refine fnG_of F scLaw (fun vs H Q E h => ?_) (fun cdv A outer s H vs Q E gd hr h => ?_)
  · obtain ⟨a, n, rfl, _⟩ := h
    rfl
  · obtain ⟨a, ns, rfl, hS, hl, hT, fin⟩ := h
    refine ⟨_, pss_one (ps_ret (pe_callB (cr_all rfl) (by rfl) ma (by decide +kernel) (pa_cons (pe_lc (own := [("_law_k", 1)]) (g := gName 1) (by rfl) scLaw.nd (pi_range1 (by rfl) mr (pa_cons (pe_op op_add pe_int (pe_callB (call_min2 rfl) (by rfl) mn (by decide +kernel) (pa_cons pe_int (pa_cons (pe_callB call_len_seq (by rfl) ml PySem.boot_len (pa_cons (pv 0) pa_nil)) pa_nil)))) pa_nil))
        (blkOk_by (own := [("_law_k", 1)]) (N := ["_law_script", "_law_k"]) (sc := defScope sLaw) (by decide +kernel)) (fun _ _ _ _ _ => pg_name (i := 1) scLaw.nd rfl (Or.inl rfl))
        (fun _ _ _ _ _ => pts_nil) (fun _ _ _ _ _ => pe_callG (E := E0) GR gd (hr.mono (by decide)) (by rfl) gR kR bR .nil (pa_cons (pe_call GP (hr.mono (by decide)) (by rfl) gP' kP bP .nil pass0 (pa_cons (pv 0) (pa_cons (pv 1) pa_nil))) pa_nil))) pa_nil))), ?_⟩
    refine ⟨.ref a, rfl, a, _, rfl, .inl hS, _, _, rfl, _, _, rfl, rfl, _, rfl, ?_, ?_, fun D nD => lc_range (lo := 0) (n := _) (fun r H' => ExtN H H' ∧ Tabs [(Pt, lamNm)] H' ∧ H' D = some (.lst ((List.replicate r true).map V.bl))) ?_ ?_ ?_⟩
    · split <;> omega
    · split <;> omega
    · exact ⟨ext_new (ExtN.refl H) nD, tabs_new hT nD, upd_same⟩
    · rintro r H1 hr1 ⟨x1, T1, eD⟩
      have hr2 : r ≤ 100 := by
        refine Nat.le_of_lt (Nat.lt_of_lt_of_le hr1 ?_)
        split <;> omega
      refine ⟨rfl, yes ?_⟩
      refine ⟨.ref a, rfl, .int (0 + r), rfl, a, ns, r, by rw [Int.zero_add]; rfl, extL x1 hS, hl, hr2, fun H2 p s2 np pp => ?_⟩
      refine ⟨p, 0, rfl, pp, by decide, T1.ext s2, fun HA kA TA => ?_⟩
      have hDp : D ≠ p := ne_of_none eD np
      have eDA : HA D = some (.lst ((List.replicate r true).map V.bl)) := kA D _ hDp (s2 _ _ eD) (fun ps z => nomatch z)
      refine ⟨_, eDA, by rw [List.length_map, List.length_replicate]; exact small1000 (by omega), fun b o z tb => ?_, tabs_upd TA eDA, ?_⟩
      · rw [upd_ne (ne_of_none z nD)]
        exact ext_kt np (ExtN.of s2) kA b o (x1 b o z tb) tb
      · rw [upd_same, List.replicate_succ', List.map_append]
        rfl
    · rintro H1 ⟨x1, T1, eD⟩
      refine ⟨D, _, rfl, .inl (.inl eD), ?_⟩
      have hall : ∀ r, (List.replicate r true).all id = true := fun r => by
        induction r with
        | zero => rfl
        | succ r ih => rw [List.replicate_succ]; exact ih
      rw [hall]
      exact fin H1

end
end Bf
namespace Bf
open PySem PySem.Spec PyProof.Rows L2 LamX
/-- what is tracked at the law's call: the tables ts, empty; the script at a, locked, where it isn't written -/
def G0 (K : PySem.W.Frag) (ts : List Addr) (a : Addr) (ob : Obj) (xs : List V) : Hp := fun b =>
  if b ∈ ts then some (.tbl #[]) else if b = a ∧ (K.lookup a).isNone = true then some (.frz ob (.lst xs)) else none
section
variable {K : PySem.W.Frag} {ts : List Addr} {a b : Addr} {ob : Obj} {xs : List V}
theorem g0_tab (h : b ∈ ts) : G0 K ts a ob xs b = some (.tbl #[]) := if_pos h
theorem g0_scr (h : a ∉ ts) (n : K.lookup a = none) : G0 K ts a ob xs a = some (.frz ob (.lst xs)) := (if_neg h).trans (if_pos ⟨rfl, by rw [n]; rfl⟩)
theorem g0_some {u : HO} (h : G0 K ts a ob xs b = some u) : (b ∈ ts ∧ u = .tbl #[]) ∨ (b ∉ ts ∧ b = a ∧ K.lookup a = none ∧ u = .frz ob (.lst xs)) := by
  unfold G0 at h
  by_cases m : b ∈ ts
  · rw [if_pos m] at h
    exact .inl ⟨m, (Option.some.inj h).symm⟩
  · rw [if_neg m] at h
    by_cases c : b = a ∧ (K.lookup a).isNone = true
    · rw [if_pos c] at h
      exact .inr ⟨m, c.1, Option.isNone_iff_eq_none.mp c.2, (Option.some.inj h).symm⟩
    · rw [if_neg c] at h
      cases h
end
theorem law_tabs {P : Program} {w : World} {K : PySem.W.Frag} {mg mb : Str → Option Value} {k : Nat} {fa a : Addr} {cs : List (Addr × Addr)} {fd : FuncData} {x : Str} {sp : Sp} {z : Shared} {vs : List Value} {ns : List Int}
    (KI : K.In z.heap) (n1 : z.heap.Ns mainGlobals mg) (n2 : z.heap.Ns builtinsNs mb) (n3 : ∀ y : Str, y ≠ "__name__" → mb y = bootBuiltins y) (n4 : z.heap.NoLimit) (n5 : z.gens = #[])
    (t1 : ∀ p ∈ cs, z.heap.get? p.2 = some { cls := .none, data := .fields #[] }) (t2 : ∀ p ∈ cs, K.lookup p.2 = none) (t3 : ∀ p ∈ cs, PySem.W.CodeHd z.heap p.1 p.2)
    (t4 : ∃ (bm : Addr) (ob : Obj), mg "__builtins__" = some (.ref bm) ∧ bm ≠ builtinsNs ∧ z.heap.get? bm = some ob ∧ ob.cls = .type "module" ∧ ob.dict = some builtinsNs ∧ ob.data = .plain)
    (oa : z.heap.get? a = some { cls := .type "list", data := .seq vs.toArray }) (ia : IntsAre vs ns) (la : ns.length ≤ sizeLine) (rm : Room k callerA)
    (F : ∀ base : Heap, K.In base → base.Ns mainGlobals mg → (∀ p ∈ cs, TabB base mg p.1 p.2) → FnG P w K mg base k fa fd [x] sp) (bd : ∀ (s : Shared) (u : Value), BindsTo s fd ⟨[u], []⟩ [(x, u)])
    (hs : ∀ G : Hp, (∀ p ∈ cs, G p.2 = some (.tbl #[])) → SqL K G a (ns.map V.int) → sp [.ref a] G (fun v _ => v = .bl true) fun _ _ _ => False) :
    codeAny (model P w) callerA (.call (.ref fa) ⟨[.ref a], []⟩) (fun r y => r = .ok (.ret (.bool true)) ∧ OldK z.heap y.heap ∧ y.os = z.os ∧ AllBare y.gens) z := by
  have tm : ∀ b ∈ cs.map (·.2), ∃ p ∈ cs, p.2 = b := fun b h => by
    obtain ⟨p, hp, e⟩ := List.mem_map.mp h
    exact ⟨p, hp, e⟩
  have nat : a ∉ cs.map (·.2) := fun h => by
    obtain ⟨p, hp, e⟩ := tm a h
    have q := t1 p hp
    rw [e, oa] at q
    cases q
  generalize hG : G0 K (cs.map (·.2)) a { cls := .type "list", data := .seq vs.toArray } (ns.map V.int) = G
  have some' : ∀ {b u}, G b = some u → (b ∈ cs.map (·.2) ∧ u = .tbl #[]) ∨ (b ∉ cs.map (·.2) ∧ b = a ∧ K.lookup a = none ∧ u = .frz { cls := .type "list", data := .seq vs.toArray } (.lst (ns.map V.int))) := fun {b u} h => g0_some (hG ▸ h)
  have tabG : ∀ p ∈ cs, G p.2 = some (.tbl #[]) := fun p hp => hG ▸ g0_tab (List.mem_map.mpr ⟨p, hp, rfl⟩)
  have rv := vals_ints ia
  have sq : SqL K G a (ns.map V.int) := by
    cases e : K.lookup a with
    | none => exact .inl (.inr ⟨_, hG ▸ g0_scr nat e⟩)
    | some o =>
      have q := KI a o e
      rw [oa] at q
      cases q
      exact .inr ⟨_, vs.toArray, _, e, rfl, rfl, rfl, by rw [List.size_toArray, ia.length]; exact la, by simpa using rv⟩
  have ok : HOk P w G z.heap := fun b u e => by
    rcases some' e with ⟨m, rfl⟩ | ⟨_, rfl, _, rfl⟩
    · obtain ⟨p, hp, rfl⟩ := tm b m
      exact t1 p hp
    · exact ⟨oa, by rw [List.length_map]; exact la, vs, _, rv, oa⟩
  -- what is neither a list nor an empty table isn't tracked
  have off : ∀ {b : Addr} {o : Obj}, z.heap.get? b = some o → (∀ us n, o.data ≠ .seq us n) → o.data ≠ .fields #[] → G b = none := fun {b o} e d1 d2 => by
    cases q : G b with
    | none => rfl
    | some u =>
      rcases some' q with ⟨m, _⟩ | ⟨_, rfl, _, _⟩
      · obtain ⟨p, hp, rfl⟩ := tm b m
        rw [t1 p hp] at e
        cases e
        exact (d2 rfl).elim
      · rw [oa] at e
        cases e
        exact (d1 _ _ rfl).elim
  have stay : ∀ {b : Addr} {o : Obj}, z.heap.get? b = some o → (∀ us n, o.data ≠ .seq us n) → o.data ≠ .fields #[] → (hidT z.heap G).get? b = some o := fun e d1 d2 => hidT_get e (off e d1 d2)
  have nsB : ∀ {b : Addr} {m : Str → Option Value}, z.heap.Ns b m → (hidT z.heap G).Ns b m := fun ⟨o, es, ep, e, d, r⟩ => ⟨o, es, ep, stay e (fun us n y => by rw [d] at y; cases y) (fun y => by rw [d] at y; cases y), d, r⟩
  have inB : K.In (hidT z.heap G) := fun b o e => hidT_get (KI b o e) (by
    cases q : G b with
    | none => rfl
    | some u =>
      rcases some' q with ⟨m, _⟩ | ⟨_, rfl, n, _⟩
      · obtain ⟨p, hp, rfl⟩ := tm b m
        rw [t2 p hp] at e
        cases e
      · rw [n] at e
        cases e)
  have tbB : ∀ p ∈ cs, TabB (hidT z.heap G) mg p.1 p.2 := fun p hp => by
    refine ⟨?_, ?_, fun y => ?_⟩
    · obtain ⟨o, us, file, tf, flags, tg, inF, text, tt, e1, r1, r2, r3, rest⟩ := t3 p hp
      refine ⟨o, us, file, tf, flags, tg, inF, text, tt, stay e1 (fun us n y => by rw [r2] at y; cases y) (fun y => ?_), r1, r2, r3, rest⟩
      rw [r2] at y
      cases y
      simp at r3
    · obtain ⟨bm, om, b1, b2, b3, b4, b5, b6⟩ := t4
      refine ⟨bm, om, b1, b2, fun y => ?_, fun y => ?_, stay b3 (fun us n y => by rw [b6] at y; cases y) (fun y => by rw [b6] at y; cases y), b4, b5, b6⟩
      · obtain ⟨o, es, ep, e, d, _⟩ := n1
        rw [y, e] at b3
        cases b3
        rw [d] at b6
        cases b6
      · rw [y, t1 p hp] at b3
        cases b3
        cases b6
    · obtain ⟨o, es, ep, e, d, _⟩ := n1
      rw [y, t1 p hp] at e
      cases e
      cases d
  have md : L2.Mod K mg (hidT z.heap G) := ⟨inB, nsB n1, ⟨mb, nsB n2, n3⟩, let ⟨mc, c1, c2⟩ := n4; ⟨mc, nsB c1, c2⟩⟩
  have en : Env0 P w K mg (hidT z.heap G) callerA [] z G := ⟨rfl, md, fun _ _ e => of_hidT e, Nat.le_of_eq (hidT_size _ _), trivial, (fun b h => absurd (show b ∈ ([] : List Addr) from h) List.not_mem_nil), ok, .of_eq n5⟩
  refine codeAny_mono ((F _ inB (nsB n1) tbB).go callerA [] z G ⟨[.ref a], []⟩ [.ref a] [.ref a] _ _ rfl rm en (bd z (.ref a)) (.cons rfl .nil) (hs G tabG sq)) fun r y h => ?_
  match r, h with
  | .error _, h => exact h.elim
  | .ok .next, h => exact False.elim h
  | .ok .brk, h => exact False.elim h
  | .ok .cont, h => exact False.elim h
  | .ok (.ret u), h =>
    obtain ⟨v, G', e1, e2, un, ok', r', q⟩ := h
    obtain rfl : v = .bl true := q
    obtain rfl : u = Value.bool true := r'
    -- an object that stood before: a table may have grown, all else is as it was
    have old : ∀ b o, z.heap.get? b = some o → (b ∈ cs.map (·.2) ∧ ∃ more : Array Value, y.heap.get? b = some { cls := .none, data := .fields more }) ∨ y.heap.get? b = some o := fun b o e => by
      cases q : G b with
      | none => exact .inr (un.keep b o e q (fun h => absurd (show b ∈ ([] : List Addr) from h) List.not_mem_nil) List.not_mem_nil)
      | some u =>
        rcases some' q with ⟨m, rfl⟩ | ⟨_, rfl, _, rfl⟩
        · obtain ⟨more, g⟩ := un.tbls b #[] q
          exact .inl ⟨m, _, ok' b _ g⟩
        · rw [oa] at e
          cases e
          exact .inr (ok' b _ (un.frzs b _ _ q)).1
    refine ⟨rfl, ⟨fun b o e => ?_, fun b o e => ?_⟩, e1, e2⟩
    · rcases old b o e with ⟨m, more, g⟩ | g
      · obtain ⟨p, hp, rfl⟩ := tm b m
        rw [t1 p hp] at e
        cases e
        exact .inr (.inl ⟨((t3 p hp).tab (t1 p hp)).isCodeTable, rfl, #[], more, rfl, by rw [Array.empty_append]; exact g⟩)
      · exact .inl g
    · rcases old b o e with ⟨_, more, g⟩ | g
      · exact ⟨_, g⟩
      · exact ⟨o, g⟩
theorem walkTG {l : PySem.W.OpenLaw} {n k : Nat} {q : Program} {loose : List Str} {XP : (Str → Option Value) → Heap → Prop} {YP : World → Heap → Prop} {d : DefRec} {x : Str} (hn : l.most = some n) (hn2 : n ≤ sizeLine) (hdf : d.params.defaults = []) (rm : Room k callerA)
    (F : ∀ (w : World) (mg : Str → Option Value) (fa : Addr) (h : Heap), YP w h → h.Ns mainGlobals mg → mg d.name = some (.ref fa) → ∃ (K : PySem.W.Frag) (fd : FuncData) (cs : List (Addr × Addr)) (sp : Sp), K.In h ∧
      (∀ p ∈ cs, h.get? p.2 = some { cls := .none, data := .fields #[] }) ∧ (∀ p ∈ cs, K.lookup p.2 = none) ∧ (∀ p ∈ cs, PySem.W.CodeHd h p.1 p.2) ∧ (∀ (s : Shared) (u : Value), BindsTo s fd ⟨[u], []⟩ [(x, u)]) ∧
      (∀ (H : Hp) (a : Addr) (ns : List Int), ns.length ≤ n → (∀ p ∈ cs, H p.2 = some (.tbl #[])) → SqL K H a (ns.map V.int) → sp [.ref a] H (fun v _ => v = .bl true) fun _ _ _ => False) ∧
      ∀ base : Heap, K.In base → base.Ns mainGlobals mg → (∀ p ∈ cs, TabB base mg p.1 p.2) → FnG l.prog w K mg base k fa fd [x] sp) : PySem.W.WalkO q loose XP YP l.row.toRowW d [] (fun f vs => PySem.call f vs) := by
  refine Att.attach_call hn hdf fun w s₀ s₁ mg mb fa o pm cd doc a vs ns G Y ho hd hcd hmg hobj hints hlen hg => ?_
  obtain ⟨K, fd, cs, sp, KX, t1, t2, t3, t4, t5, t6⟩ := F w mg fa _ Y G.T.g hmg
  exact law_tabs KX G.T.g G.T.b G.T.builtins G.T.nolimit hg t1 t2 t3 G.T.bmain hobj hints (Nat.le_trans hlen hn2) rm t6 t4 (fun H hH hS => t5 H a ns hlen hH hS)
end Bf
namespace Bf
open PySem PySem.Spec PyProof.Rows L2 LamX NdefX
theorem fun_of {K : PySem.W.Frag} {x : Str} {st : Stmt} {f : Addr} {fd : FuncData} (F : FunD K x x (defArgs st) (defBody st) (defScope st) [] [] f fd) : Fun K x x st f fd := by
  obtain ⟨oc, od, dV, kV, doc, pm, an, cdv, ct, osl, e, lk, hcd, hD, hK⟩ := F.ex
  rcases hD with ⟨_, rfl⟩ | ⟨z, _⟩
  · exact ⟨⟨oc, od, kV, doc, pm, an, cdv, ct, osl, e, lk, hcd⟩, F.kp⟩
  · exact absurd rfl z
theorem walkTE {l : PySem.W.OpenLaw} {n k : Nat} {q : Program} {loose : List Str} {XP : (Str → Option Value) → Heap → Prop} {YP : World → Heap → Prop} {d : DefRec} {x : Str} (hn : l.most = some n) (hn2 : n ≤ sizeLine) (hdf : d.params.defaults = []) (rm : Room k callerA)
    (F : ∀ (w : World) (mg : Str → Option Value) (fa : Addr) (h : Heap), YP w h → h.Ns mainGlobals mg → mg d.name = some (.ref fa) → ∃ K : PySem.W.Frag, K.In h ∧ LawAtS l w K CX0 k n x mg fa h) : PySem.W.WalkO q loose XP YP l.row.toRowW d [] (fun f vs => PySem.call f vs) := by
  refine Att.attach_callB hn hdf fun w s₀ s₁ mg mb fa o pm cd doc a vs ns G Y ho hd hcd hmg hobj hints hlen hbits hg => ?_
  obtain ⟨K, KX, fd, cs, sp, t1, t2, t3, t4, t5, t6⟩ := F w mg fa _ Y G.T.g hmg
  exact law_callTs KX G.T.g G.T.b G.T.builtins G.T.nolimit hg t1 t2 t3 G.T.bmain hobj hints (Nat.le_trans hlen hn2) rm t6 t4 (fun H hH hS => t5 H a ns hlen hbits hH hS) (fun _ _ _ z => z)
def dd0 : He.DefD := ⟨("bits", none), "bits", "bits", defArgs sBits, defBody sBits, defScope sBits, [], []⟩
def dd1 : He.DefD := ⟨("has_bit", none), "has_bit", "has_bit", defArgs sHas, defBody sHas, defScope sHas, [], []⟩
def dd2 : He.DefD := ⟨("arc", none), "arc", "arc", defArgs sArc, defBody sArc, defScope sArc, [], []⟩
def dd3 : He.DefD := ⟨("round_bits", none), "round_bits", "round_bits", defArgs sRound, defBody sRound, defScope sRound, [], []⟩
def dd4 : He.DefD := ⟨("last_bit", none), "last_bit", "last_bit", defArgs sLast, defBody sLast, defScope sLast, [], []⟩
def dd5 : He.DefD := ⟨("next_bit", none), "next_bit", "next_bit", defArgs sNext, defBody sNext, defScope sNext, [], []⟩
def dd6 : He.DefD := ⟨("across", none), "across", "across", defArgs sAcross, defBody sAcross, defScope sAcross, [], []⟩
def dd7 : He.DefD := ⟨("delay", none), "delay", "delay", defArgs sDelay, defBody sDelay, defScope sDelay, [], [("source", He.Dv.int 0)]⟩
def dd8 : He.DefD := ⟨("tree_at", none), "tree_at", "tree_at", defArgs sTree, defBody sTree, defScope sTree, [], [("source", He.Dv.int 0)]⟩
def dd9 : He.DefD := ⟨("letter_at", none), "letter_at", "letter_at", defArgs sLat, defBody sLat, defScope sLat, [], []⟩
def dd10 : He.DefD := ⟨("due", none), "due", "due", defArgs sDue, defBody sDue, defScope sDue, [], []⟩
def dd11 : He.DefD := ⟨("heard", none), "heard", "heard", defArgs sHeard, defBody sHeard, defScope sHeard, [], [("source", He.Dv.int 0)]⟩
def dd12 : He.DefD := ⟨("end", none), "end", "end", defArgs sEnd, defBody sEnd, defScope sEnd, [], []⟩
def dd13 : He.DefD := ⟨("since", none), "since", "since", defArgs sSince, defBody sSince, defScope sSince, [], [("source", He.Dv.int 0)]⟩
def dd14 : He.DefD := ⟨("crossed_by", none), "crossed_by", "crossed_by", defArgs sCby, defBody sCby, defScope sCby, [], []⟩
def dd15 : He.DefD := ⟨("turned_beat", none), "turned_beat", "turned_beat", defArgs sTb, defBody sTb, defScope sTb, [], []⟩
def dd16 : He.DefD := ⟨("back_told", none), "back_told", "back_told", defArgs sBt, defBody sBt, defScope sBt, [], [("source", He.Dv.int 0)]⟩
def dd17 : He.DefD := ⟨("back_heard", none), "back_heard", "back_heard", defArgs sBh, defBody sBh, defScope sBh, [], [("source", He.Dv.int 0)]⟩
def dd18 : He.DefD := ⟨("_law_pot", none), "_law_pot", "_law_pot", defArgs sPot, defBody sPot, defScope sPot, [], []⟩
def dd19 : He.DefD := ⟨("_law_take", none), "_law_take", "_law_take", defArgs sTake, defBody sTake, defScope sTake, [], []⟩
def dd20 : He.DefD := ⟨("_law_due", none), "_law_due", "_law_due", defArgs sLdue, defBody sLdue, defScope sLdue, [], []⟩
def dd21 : He.DefD := ⟨("_law_firsts", none), "_law_firsts", "_law_firsts", defArgs sFirsts, defBody sFirsts, defScope sFirsts, [], []⟩
def dd22 : He.DefD := ⟨("_law_beat_right", none), "_law_beat_right", "_law_beat_right", defArgs sBr, defBody sBr, defScope sBr, [], []⟩
def dd23 : He.DefD := ⟨("_law_right", none), "_law_right", "_law_right", defArgs sRi, defBody sRi, defScope sRi, [], []⟩
def dd24 : He.DefD := ⟨("law", none), "law", "law", defArgs sLaw, defBody sLaw, defScope sLaw, [], []⟩
def fnL : List He.DefD := [dd0, dd1, dd2, dd3, dd4, dd5, dd6, dd7, dd8, dd9, dd10, dd11, dd12, dd13, dd14, dd15, dd16, dd17, dd18, dd19, dd20, dd21, dd22, dd23, dd24]
def faL : List He.Fa := [.glo "bits", .glo "has_bit", .glo "arc", .glo "round_bits", .glo "last_bit", .glo "next_bit", .glo "across", .glo "delay", .glo "tree_at", .glo "letter_at", .glo "due", .glo "heard", .glo "end", .glo "since", .glo "crossed_by", .glo "turned_beat", .glo "back_told", .glo "back_heard", .glo "_law_pot", .glo "_law_take", .glo "_law_due", .glo "_law_firsts", .glo "_law_beat_right", .glo "_law_right", .glo "law", .free "len", .free "abs", .free "range", .free "max", .free "min", .free "tuple", .free "sorted", .free "repr", .free "int", .free "all"]
def tfL : List He.Defn := [("round_bits", none)]
abbrev RR : PySem.W.OpenRow := PySem.W.OpenLaw.row PySem.Challenge.rw_beatferry_k48_back_beat_by_beat
abbrev hkL : PySem.W.Hook := He.hookX 4 faL fnL [] tfL (fun _ => true)
def obL (s : PySem.W.SharedT) : He.AlX := He.obsX 4 faL fnL [] tfL (fun _ => true) (HandSHeadRun.getT s)
theorem obL_eq (s : PySem.W.SharedT) : obL s = hkL.obs s.abs := He.obsX_eq (HandSHeadRun.getT_eq s)
theorem runL (w : World) : HandSHeadRun.RunEq RR (PySem.W.view RR.prog [30]) hkL obL 6000 ["bits", "has_bit", "arc", "round_bits", "last_bit", "next_bit", "across", "delay", "tree_at", "letter_at", "due", "heard", "end", "since", "crossed_by", "turned_beat", "back_told", "back_heard", "_law_pot", "_law_take", "_law_due", "_law_firsts", "_law_beat_right", "_law_right"] w := by
  intro os
  kernel_rfl
theorem facts {l : PySem.W.OpenLaw} {w : World} {K : PySem.W.Frag} {h : Heap} {mg : Str → Option Value} {fa : Addr} (X : K.In h) (G : h.Ns mainGlobals mg) (hfa : mg ("law" : Str) = some (.ref fa)) (c : He.SaysX faL fnL [] tfL (fun _ => true) w h K) : ∃ (fd : FuncData) (cs : List (Addr × Addr)) (sp : Sp),
      (∀ p ∈ cs, h.get? p.2 = some { cls := .none, data := .fields #[] }) ∧ (∀ p ∈ cs, K.lookup p.2 = none) ∧ (∀ p ∈ cs, PySem.W.CodeHd h p.1 p.2) ∧ (∀ (s : Shared) (u : Value), BindsTo s fd ⟨[u], []⟩ [("_law_script", u)]) ∧
      (∀ (H : Hp) (a : Addr) (ns : List Int), ns.length ≤ 63 → (∀ p ∈ cs, H p.2 = some (.tbl #[])) → SqL K H a (ns.map V.int) → sp [.ref a] H (fun v _ => v = .bl true) fun _ _ _ => False) ∧
      ∀ base : Heap, K.In base → base.Ns mainGlobals mg → (∀ p ∈ cs, TabB base mg p.1 p.2) → FnG l.prog w K mg base 15 fa fd ["_law_script"] sp := by
  have cd := c.t.d
  obtain ⟨e0, F0⟩ := cd.def_ 0 (d := dd0) rfl
  have g0 := He.glo_ok X G (cd.fact 0 (f := .glo "bits") rfl)
  obtain ⟨e1, F1⟩ := cd.def_ 1 (d := dd1) rfl
  have g1 := He.glo_ok X G (cd.fact 1 (f := .glo "has_bit") rfl)
  obtain ⟨e2, F2⟩ := cd.def_ 2 (d := dd2) rfl
  have g2 := He.glo_ok X G (cd.fact 2 (f := .glo "arc") rfl)
  obtain ⟨e3, F3⟩ := cd.def_ 3 (d := dd3) rfl
  have g3 := He.glo_ok X G (cd.fact 3 (f := .glo "round_bits") rfl)
  obtain ⟨e4, F4⟩ := cd.def_ 4 (d := dd4) rfl
  have g4 := He.glo_ok X G (cd.fact 4 (f := .glo "last_bit") rfl)
  obtain ⟨e5, F5⟩ := cd.def_ 5 (d := dd5) rfl
  have g5 := He.glo_ok X G (cd.fact 5 (f := .glo "next_bit") rfl)
  obtain ⟨e6, F6⟩ := cd.def_ 6 (d := dd6) rfl
  have g6 := He.glo_ok X G (cd.fact 6 (f := .glo "across") rfl)
  obtain ⟨e7, F7⟩ := cd.def_ 7 (d := dd7) rfl
  have g7 := He.glo_ok X G (cd.fact 7 (f := .glo "delay") rfl)
  obtain ⟨e8, F8⟩ := cd.def_ 8 (d := dd8) rfl
  have g8 := He.glo_ok X G (cd.fact 8 (f := .glo "tree_at") rfl)
  obtain ⟨e9, F9⟩ := cd.def_ 9 (d := dd9) rfl
  have g9 := He.glo_ok X G (cd.fact 9 (f := .glo "letter_at") rfl)
  obtain ⟨e10, F10⟩ := cd.def_ 10 (d := dd10) rfl
  have g10 := He.glo_ok X G (cd.fact 10 (f := .glo "due") rfl)
  obtain ⟨e11, F11⟩ := cd.def_ 11 (d := dd11) rfl
  have g11 := He.glo_ok X G (cd.fact 11 (f := .glo "heard") rfl)
  obtain ⟨e12, F12⟩ := cd.def_ 12 (d := dd12) rfl
  have g12 := He.glo_ok X G (cd.fact 12 (f := .glo "end") rfl)
  obtain ⟨e13, F13⟩ := cd.def_ 13 (d := dd13) rfl
  have g13 := He.glo_ok X G (cd.fact 13 (f := .glo "since") rfl)
  obtain ⟨e14, F14⟩ := cd.def_ 14 (d := dd14) rfl
  have g14 := He.glo_ok X G (cd.fact 14 (f := .glo "crossed_by") rfl)
  obtain ⟨e15, F15⟩ := cd.def_ 15 (d := dd15) rfl
  have g15 := He.glo_ok X G (cd.fact 15 (f := .glo "turned_beat") rfl)
  obtain ⟨e16, F16⟩ := cd.def_ 16 (d := dd16) rfl
  have g16 := He.glo_ok X G (cd.fact 16 (f := .glo "back_told") rfl)
  obtain ⟨e17, F17⟩ := cd.def_ 17 (d := dd17) rfl
  have g17 := He.glo_ok X G (cd.fact 17 (f := .glo "back_heard") rfl)
  obtain ⟨e18, F18⟩ := cd.def_ 18 (d := dd18) rfl
  have g18 := He.glo_ok X G (cd.fact 18 (f := .glo "_law_pot") rfl)
  obtain ⟨e19, F19⟩ := cd.def_ 19 (d := dd19) rfl
  have g19 := He.glo_ok X G (cd.fact 19 (f := .glo "_law_take") rfl)
  obtain ⟨e20, F20⟩ := cd.def_ 20 (d := dd20) rfl
  have g20 := He.glo_ok X G (cd.fact 20 (f := .glo "_law_due") rfl)
  obtain ⟨e21, F21⟩ := cd.def_ 21 (d := dd21) rfl
  have g21 := He.glo_ok X G (cd.fact 21 (f := .glo "_law_firsts") rfl)
  obtain ⟨e22, F22⟩ := cd.def_ 22 (d := dd22) rfl
  have g22 := He.glo_ok X G (cd.fact 22 (f := .glo "_law_beat_right") rfl)
  obtain ⟨e23, F23⟩ := cd.def_ 23 (d := dd23) rfl
  have g23 := He.glo_ok X G (cd.fact 23 (f := .glo "_law_right") rfl)
  obtain ⟨e24, F24⟩ := cd.def_ 24 (d := dd24) rfl
  have g24 := He.glo_ok X G (cd.fact 24 (f := .glo "law") rfl)
  have m0 := He.free_ok X G (cd.fact 25 (f := .free "len") rfl)
  have m1 := He.free_ok X G (cd.fact 26 (f := .free "abs") rfl)
  have m2 := He.free_ok X G (cd.fact 27 (f := .free "range") rfl)
  have m3 := He.free_ok X G (cd.fact 28 (f := .free "max") rfl)
  have m4 := He.free_ok X G (cd.fact 29 (f := .free "min") rfl)
  have m5 := He.free_ok X G (cd.fact 30 (f := .free "tuple") rfl)
  have m6 := He.free_ok X G (cd.fact 31 (f := .free "sorted") rfl)
  have m7 := He.free_ok X G (cd.fact 32 (f := .free "repr") rfl)
  have m8 := He.free_ok X G (cd.fact 33 (f := .free "int") rfl)
  have m9 := He.free_ok X G (cd.fact 34 (f := .free "all") rfl)
  have ee := hfa.symm.trans g24
  cases ee
  have bL := FunD.bindsA (ps := ["_law_script"]) F24 fun _ _ _ _ _ _ us hl => match us, hl with | [_], _ => rfl
  obtain ⟨oc, od, dV, kV, doc, pm, an, cdv, ct, osl, efd, lk, hcd, hD, hK⟩ := id F3.ex
  obtain ⟨cc, rfl⟩ := He.codeIn_ref hcd
  have ec : He.codeOf K ("round_bits", none) = cc := He.codeOf_eq lk (by rw [efd])
  have FT : FunT K "round_bits" sRound (He.fAd K dd3.at_) e3 cc := by
    rcases hD with ⟨_, rfl⟩ | ⟨z, _⟩
    · exact ⟨⟨oc, od, kV, doc, pm, an, ct, osl, efd, lk, hcd⟩, F3.kp⟩
    · exact absurd rfl z
  have memT : (("round_bits", none) : He.Defn) ∈ tfL := List.mem_singleton.mpr rfl
  refine ⟨e24, [He.cT K ("round_bits", none)], spLaw K (He.cT K ("round_bits", none)).2, fun p hp => ?_, fun p hp => ?_, fun p hp => ?_, fun s v => bL s [v] rfl, fun H a ns hl hH hS => ⟨a, ns, rfl, hS, hl, fun p hp => ?_, fun _ => rfl⟩, fun base _ _ TB => ?_⟩
  · rw [List.mem_singleton.mp hp]; exact c.empty _ memT
  · rw [List.mem_singleton.mp hp]; exact c.out _ memT
  · rw [List.mem_singleton.mp hp]; exact PySem.W.codeHd_of_K X (c.hd _ memT)
  · rw [List.mem_singleton.mp hp]; exact TabS.nil (hH _ (List.mem_singleton.mpr rfl))
  · have TB0 : TabB base mg cc (He.cT K ("round_bits", none)).2 := by
      have z := TB _ (List.mem_singleton.mpr rfl)
      have e1 : (He.cT K ("round_bits", none)).1 = cc := ec
      rw [e1] at z
      exact z
    have f0 := fun_of (st := sBits) F0
    have b0 := f0.binds (ps := ["hand"]) fun _ _ _ _ _ _ us hl => match us, hl with | [_], _ => rfl
    have f1 := fun_of (st := sHas) F1
    have b1 := f1.binds (ps := ["hand", "k"]) fun _ _ _ _ _ _ us hl => match us, hl with | [_, _], _ => rfl
    have f2 := fun_of (st := sArc) F2
    have b2 := f2.binds (ps := ["q", "j", "k"]) fun _ _ _ _ _ _ us hl => match us, hl with | [_, _, _], _ => rfl
    have f3 := fun_of (st := sRound) F3
    have b3 := f3.binds (ps := ["q", "hand", "j"]) fun _ _ _ _ _ _ us hl => match us, hl with | [_, _, _], _ => rfl
    have f4 := fun_of (st := sLast) F4
    have b4 := f4.binds (ps := ["q", "hand", "j"]) fun _ _ _ _ _ _ us hl => match us, hl with | [_, _, _], _ => rfl
    have f5 := fun_of (st := sNext) F5
    have b5 := f5.binds (ps := ["q", "hand", "k"]) fun _ _ _ _ _ _ us hl => match us, hl with | [_, _, _], _ => rfl
    have f6 := fun_of (st := sAcross) F6
    have b6 := f6.binds (ps := ["hand", "k"]) fun _ _ _ _ _ _ us hl => match us, hl with | [_, _], _ => rfl
    have f7 : FunS K "delay" sDelay _ e7 := F7
    have q7 := kbS f7 fun _ _ _ _ _ _ _ _ _ _ => rfl
    have f8 : FunS K "tree_at" sTree _ e8 := F8
    have q8 := kbS3 (x1 := "q") (x2 := "hand") (x3 := "t") f8 fun _ _ _ _ _ _ _ _ _ _ => rfl
    have f9 := fun_of (st := sLat) F9
    have b9 := f9.binds (ps := ["q", "hand", "t", "source"]) fun _ _ _ _ _ _ us hl => match us, hl with | [_, _, _, _], _ => rfl
    have f10 := fun_of (st := sDue) F10
    have b10 := f10.binds (ps := ["q", "m", "hand", "t", "source"]) fun _ _ _ _ _ _ us hl => match us, hl with | [_, _, _, _, _], _ => rfl
    have f11 : FunS K "heard" sHeard _ e11 := F11
    have q11 := kbS4 (x1 := "q") (x2 := "m") (x3 := "hand") (x4 := "t") f11 fun _ _ _ _ _ _ _ _ _ _ _ => rfl
    have f12 := fun_of (st := sEnd) F12
    have b12 := f12.binds (ps := ["q", "m"]) fun _ _ _ _ _ _ us hl => match us, hl with | [_, _], _ => rfl
    have f13 : FunS K "since" sSince _ e13 := F13
    have q13 := kbS4 (x1 := "q") (x2 := "m") (x3 := "hand") (x4 := "i") f13 fun _ _ _ _ _ _ _ _ _ _ _ => rfl
    have f14 := fun_of (st := sCby) F14
    have b14 := f14.binds (ps := ["q", "some", "t"]) fun _ _ _ _ _ _ us hl => match us, hl with | [_, _, _], _ => rfl
    have f15 := fun_of (st := sTb) F15
    have b15 := f15.binds (ps := ["q", "m", "u"]) fun _ _ _ _ _ _ us hl => match us, hl with | [_, _, _], _ => rfl
    have f16 : FunS K "back_told" sBt _ e16 := F16
    have q16 := kbS4 (x1 := "q") (x2 := "m") (x3 := "hand") (x4 := "u") f16 fun _ _ _ _ _ _ _ _ _ _ _ => rfl
    obtain ⟨ds16, v16, b16⟩ := FunD.binds0 (ps := ["q", "m", "hand", "u", "source"]) f16 4 (by simp) rfl (fun D doc pm an cdv ct us ks hu hk => match us, ks, hu, hk with | [_, _, _, _], [_], _, _ => ⟨_, _, _, _, _, _, rfl, rfl, rfl⟩)
    have f17 : FunS K "back_heard" sBh _ e17 := F17
    have q17 := kbS4 (x1 := "q") (x2 := "m") (x3 := "hand") (x4 := "u") f17 fun _ _ _ _ _ _ _ _ _ _ _ => rfl
    obtain ⟨ds17, v17, b17⟩ := FunD.binds0 (ps := ["q", "m", "hand", "u", "source"]) f17 4 (by simp) rfl (fun D doc pm an cdv ct us ks hu hk => match us, ks, hu, hk with | [_, _, _, _], [_], _, _ => ⟨_, _, _, _, _, _, rfl, rfl, rfl⟩)
    have f18 := fun_of (st := sPot) F18
    have b18 := f18.binds (ps := ["_law_script", "_law_k"]) fun _ _ _ _ _ _ us hl => match us, hl with | [_, _], _ => rfl
    have f19 := fun_of (st := sTake) F19
    have b19 := f19.binds (ps := ["_law_pot_here", "_law_wide"]) fun _ _ _ _ _ _ us hl => match us, hl with | [_, _], _ => rfl
    have f20 := fun_of (st := sLdue) F20
    have b20 := f20.binds (ps := ["_law_size", "_law_count", "_law_spot", "_law_t", "_law_origin"]) fun _ _ _ _ _ _ us hl => match us, hl with | [_, _, _, _, _], _ => rfl
    have f21 := fun_of (st := sFirsts) F21
    have b21 := f21.binds (ps := ["_law_size", "_law_count", "_law_origin"]) fun _ _ _ _ _ _ us hl => match us, hl with | [_, _, _], _ => rfl
    have f22 := fun_of (st := sBr) F22
    have b22 := f22.binds (ps := ["_law_size", "_law_count", "_law_origin", "_law_firsts_here", "_law_back"]) fun _ _ _ _ _ _ us hl => match us, hl with | [_, _, _, _, _], _ => rfl
    have f23 := fun_of (st := sRi) F23
    have b23 := f23.binds (ps := ["_law_pot_here"]) fun _ _ _ _ _ _ us hl => match us, hl with | [_], _ => rfl
    have f24 := fun_of (st := sLaw) F24
    have GH : FnOk l.prog w K mg base CX0 1 _ _ _ _ := ok_has f1
    have GB : FnOk l.prog w K mg base CX0 2 _ _ _ _ := ok_bits f0 GH f1.kp b1 g1 m5 m2
    have GA : FnOk l.prog w K mg base CX0 1 _ _ _ _ := ok_arc f2
    have GR : FnOk l.prog w K mg base CX0 5 _ _ _ _ := ok_round FT TB0 GA f2.kp b2 g2 GB f0.kp b0 g0 m5 m6
    have GL : FnOk l.prog w K mg base CX0 6 _ _ _ _ := ok_last f4 GR f3.kp b3 g3
    have GN : FnOk l.prog w K mg base CX0 6 _ _ _ _ := ok_next f5 GR f3.kp b3 g3
    have GX : FnOk l.prog w K mg base CX0 1 _ _ _ _ := ok_across f6
    have GD : FnOk l.prog w K mg base CX0 7 _ _ _ _ := ok_delay f7 GH f1.kp b1 g1 GA f2.kp b2 g2 GL f4.kp b4 g4
    have GTr : FnOk l.prog w K mg base CX0 7 _ _ _ _ := ok_tree f8 GH f1.kp b1 g1 GN f5.kp b5 g5
    have GLt : FnOk l.prog w K mg base CX0 8 _ _ _ _ := ok_lat f9 GH f1.kp b1 g1 GA f2.kp b2 g2 GTr f8.kp q8 g8
    have GDu : FnOk l.prog w K mg base CX0 9 _ _ _ _ := ok_due f10 GLt f9.kp b9 g9 m4
    have GHd : FnOk l.prog w K mg base CX0 10 _ _ _ _ := ok_heard f11 GDu f10.kp b10 g10 GX f6.kp b6 g6
    have GEn : FnOk l.prog w K mg base CX0 1 _ _ _ _ := ok_end f12
    have GCb : FnOk l.prog w K mg base CX0 7 _ _ _ _ := ok_cby f14 GA f2.kp b2 g2 GL f4.kp b4 g4
    have GSi : FnOk l.prog w K mg base CX0 9 _ _ _ _ := ok_since f13 GCb f14.kp b14 g14 GD f7.kp q7 g7
    have GTb : FnOk l.prog w K mg base CX0 2 _ _ _ _ := ok_tb f15 GEn f12.kp b12 g12
    have GBt : FnOk l.prog w K mg base CX0 11 _ _ _ _ := ok_bt f16 GTb f15.kp b15 g15 GHd f11.kp q11 g11 GSi f13.kp q13 g13
    have GBh : FnOk l.prog w K mg base CX0 12 _ _ _ _ := ok_bh f17 GX f6.kp b6 g6 GTb f15.kp b15 g15 GBt f16.kp q16 g16
    have GP : FnOk l.prog w K mg base CX0 1 _ _ _ _ := ok_pot f18 m0 m1 m8
    have GT : FnOk l.prog w K mg base CX0 1 _ _ _ _ := ok_take f19
    have GLd : FnOk l.prog w K mg base CX0 1 _ _ _ _ := ok_ldue f20 m4
    have GFs : FnOk l.prog w K mg base CX0 2 _ _ _ _ := ok_firsts f21 GLd f20.kp b20 g20 m2
    have nbt := kbP (π := [3, 2, 1, 0, 4]) (ps := ["q", "m", "hand", "u", "source"]) (ks := ["u", "hand", "m", "q", "source"]) f16 (by decide) fun _ _ _ _ _ _ ws hl => match ws, hl with | [_, _, _, _, _], _ => rfl
    have nbh := kbP (π := [3, 2, 1, 0, 4]) (ps := ["q", "m", "hand", "u", "source"]) (ks := ["u", "hand", "m", "q", "source"]) f17 (by decide) fun _ _ _ _ _ _ ws hl => match ws, hl with | [_, _, _, _, _], _ => rfl
    have GBr := ok_br f22 ⟨GLd, f20.kp, b20, g20, GBt, f16.kp, q16, nbt, v16, b16, g16, GBh, f17.kp, q17, nbh, v17, b17, g17, m7, m0, m8, m2⟩
    have GRi := ok_ri f23 GT f19.kp b19 g19 GFs f21.kp b21 g21 GBr f22.kp b22 g22 m2
    exact ok_law f24 GP f18.kp b18 g18 GRi f23.kp b23 g23 m0 m2 m4 m9
end Bf
open PySem PySem.W PySem.Calls PyProof.Rows
set_option maxHeartbeats 0 in
theorem PySem.Challenge.cw_beatferry_k48_back_beat_by_beat_holds : PySem.Challenge.rw_beatferry_k48_back_beat_by_beat.Holds := by
  w_on; o_law
  refine HandSHeadRun.head_any (r := OpenLaw.row PySem.Challenge.rw_beatferry_k48_back_beat_by_beat) (q := view (OpenLaw.row PySem.Challenge.rw_beatferry_k48_back_beat_by_beat).prog [30]) (H := Bf.hkL) (ob := Bf.obL) (M := 6000) (loose := ["bits", "has_bit", "arc", "round_bits", "last_bit", "next_bit", "across", "delay", "tree_at", "letter_at", "due", "heard", "end", "since", "crossed_by", "turned_beat", "back_told", "back_heard", "_law_pot", "_law_take", "_law_due", "_law_firsts", "_law_beat_right", "_law_right"]) (d := HandSHeadRun.topDef (OpenLaw.row PySem.Challenge.rw_beatferry_k48_back_beat_by_beat).prog 30) (kwd := []) Bf.obL_eq
    (by kernel_rfl) (fun s => by kernel_rfl) Bf.runL (by kernel_rfl) (by kernel_rfl) (by kernel_rfl) (by rfl) (by first | assumption | decide +kernel) (by decide +kernel) ⟨rfl, rfl, rfl, rfl, rfl, by decide +kernel⟩ ?hw ?hc
  case hw => w_witness2
  case hc =>
    refine Bf.walkTG (l := PySem.Challenge.rw_beatferry_k48_back_beat_by_beat) (n := 63) (k := 15) (x := "_law_script") rfl (by decide) (by kernel_rfl) ⟨rfl, by decide, by decide⟩ ?F
    intro w mg fa h Y G hmg0
    obtain ⟨K, KX, c⟩ := Y
    have hmg : mg ("law" : PySem.Str) = some (.ref fa) := by
      have e : (HandSHeadRun.topDef (OpenLaw.row PySem.Challenge.rw_beatferry_k48_back_beat_by_beat).prog 30).name = ("law" : PySem.Str) := by kernel_rfl
      rw [← e]
      exact hmg0
    obtain ⟨fd, cs, sp, h1, h2, h3, h4, h5, h6⟩ := Bf.facts (l := PySem.Challenge.rw_beatferry_k48_back_beat_by_beat) (w := w) KX G hmg c; exact ⟨K, fd, cs, sp, KX, h1, h2, h3, h4, h5, h6⟩
