import PyProof.Rows.All
import Wide.All
import OpenK.AllK
import Wide.FinOn
import HandS.ForMost
import HandS.More
import HandS.Wide
import HandS.WideBits
import HandS.TupAny
import HandS.TupMul
import HandS.Style
import HandS.RaiseMore
import KE.SortKeyHeap
import KE.KLam
import HandS.SortKw
import HandS.Lambda
import HandS.Nested
import HandS.EndTab
import HandS.Conv
import PySem.Challenge.RW_beatferry_k01_bits_and_back
set_option Elab.async false
set_option linter.all false
set_option maxRecDepth 100000
set_option maxHeartbeats 4000000
namespace Bf
open PySem PySem.Spec PyProof.Rows L2

/-! ### defs whose calls stand under no repr -/
structure FnG (P : Program) (w : World) (K : PySem.W.Frag) (mg : Str → Option Value) (base : Heap) (k : Nat) (f : Addr) (fd : FuncData) (ps : List Str) (sp : Sp) : Prop where
  len : ∀ vs H Q E, sp vs H Q E → vs.length = ps.length
  go : ∀ (A : Around) (outer : List Env) (s : Shared) (H : Hp) (args : Args) (us : List Value) (vs : List V) (Q : VK) (E : XK), A.guards = some [] → Room k A →
    Env0 P w K mg base A outer s H → BindsTo s fd args (ps.zip us) → Vals vs us → sp vs H Q E → codeAny (model P w) A (.call (.ref f) args) (CR CX0 outer P w H s Q E) s

theorem fnG_of {P : Program} {w : World} {K : PySem.W.Frag} {mg : Str → Option Value} {base : Heap} {x qual : Str} {st : Stmt} {f : Addr} {fd : FuncData} {N ps : List Str} {k : Nat} {sp : Sp}
    (F : Fun K x qual st f fd) (S : FnScope N ps (defScope st)) (len : ∀ vs H Q E, sp vs H Q E → vs.length = ps.length)
    (body : ∀ (cdv : Value) (A : Around) (outer : List Env) (s : Shared) (H : Hp) (vs : List V) (Q : VK) (E : XK), (A.deeper (envOfC qual (defScope st) s.heap.objs.size f cdv)).guards = some [] →
      Room k (A.deeper (envOfC qual (defScope st) s.heap.objs.size f cdv)) → sp vs H Q E →
      ∃ t, PSs (cxOf CX0 P w K mg base N qual (defScope st) f cdv A outer s H E).nox (defBody st) t ∧ t { nx := fun _ H' => Q .non H', rt := Q } (start N vs) H) : FnG P w K mg base (k + 1) f fd ps sp := by
  obtain ⟨oc, od, kV, doc, pm, an, cdv, ct, osl, rfl, lk, hcd⟩ := F.ex
  refine ⟨len, fun B out s G args us vs Q E gd rm en hb rl hs => ?_⟩
  have ln := len _ _ _ _ hs
  have kx : K.In s.heap := en.mod.kin.keeps fun b o e => (en.bs b o e).1
  have nl : s.heap.NoLimit := en.mod.nolimit.keeps fun b o e => (en.bs b o e).1
  have kinds : ∀ y ∈ ps.zip us, (defScope st).names.lookup y.1 = some .local ∨
      ((defScope st).names.lookup y.1 = some .cell ∧ ((cellsFrom (s.heap.objs.size + 1) (defScope st).names []).lookup y.1).isSome = true) := fun ⟨n, v⟩ hy =>
    (S.par n (List.of_mem_zip hy).1).elim (fun q => .inl q) fun q => .inr ⟨q, PySem.W.cellsFrom_some _ _ _ (.inl q)⟩
  refine codeAny_call_function rm.depth (kx _ _ lk) rfl S.co S.gen rfl (PySem.W.codeRec_of kx hcd) (hb _ _ _ _ ?_)
  refine wpAny_newFunctionEnv_cells S.kind kinds fun env he s1 x1 => ?_
  subst he
  refine ⟨nl.keeps x1.toInCall.keep, codeAny_func ?_⟩
  obtain ⟨t, ht, hq⟩ := body cdv B out s G vs Q E gd (rm.deeper _) hs
  have J0 : Inv (cxOf CX0 P w K mg base N qual (defScope st) f cdv B out s G E) [] (start N vs) G s1 := inv_start S rm.hd en ln rl x1
  refine wpAny_mono (ht.nox.run [] s1 (start N vs) G _ J0 hq) (fun fl s' hs' => ?_) fun e s' hs' => hs'
  cases fl with
  | ret u => exact let ⟨v, _, H', J, rv, q⟩ := hs'; ⟨v, H', J.os, J.bare, J.base, J.hok, rv, q⟩
  | next => exact let ⟨_, H', J, q⟩ := hs'; ⟨V.non, H', J.os, J.bare, J.base, J.hok, rfl, q⟩
  | brk => exact let ⟨_, _, _, q⟩ := hs'; False.elim q
  | cont => exact let ⟨_, _, _, q⟩ := hs'; False.elim q

section
variable {X : Cx} {x : Str} {p pos : Pos} {e : Expr} {es : List Expr} {t : TA} {k : Nat} {f : Addr} {fd : FuncData} {ps : List Str} {sp : Sp} {ds : List Value} {dvs : List V} {E : XK}
theorem runG {pins : List (Addr × Obj)} {σ : L2.St} {H : Hp} {s : Shared} {Q : VK} {us : List Value} {vs : List V} (F : FnG X.prog X.w X.K X.mg X.base k f fd ps sp) (gd : X.A.guards = some []) (hr : Room k X.A) (hb : Binds X.K fd ps ds) (hd : Vals dvs ds)
    (I : Inv X pins σ H s) (r : Vals vs us) (h : sp (vs ++ dvs) H Q E) : wpAny (model X.prog X.w) X.A (call (.ref f) us) (EP X pins σ Q) X.xe s := by
  have rr : Vals (vs ++ dvs) (us ++ ds) := r.append hd
  have ll : (us ++ ds).length = ps.length := rr.length.symm.trans (F.len _ _ _ _ h)
  refine wpAny_call (codeAny_mono (F.go X.A X.stack s H ⟨us, []⟩ (us ++ ds) (vs ++ dvs) Q E gd hr I.env0 (hb s us I.kIn ll) rr h) fun z s' hq => ?_)
  match z, hq with
  | .error _, hq => exact hq.elim
  | .ok (.ret _), hq => exact I.after hq
  | .ok .next, hq => exact False.elim hq
  | .ok .brk, hq => exact False.elim hq
  | .ok .cont, hq => exact False.elim hq
theorem pe_callG (F : FnG X.prog X.w X.K X.mg X.base k f fd ps sp) (gd : X.A.guards = some []) (hr : Room k X.A) (hg : Gl X x) (hm : X.mg x = some (.ref f)) (hk : PySem.W.keepIn X.K (.ref f) = true) (hb : Binds X.K fd ps ds) (hd : Vals dvs ds)
    (ha : PA X (e :: es) t) (hdb : (x == ("__debug__" : Str)) = false := by decide) (he : starEach (e :: es) X.env = (false, eval e X.env) :: starEach es X.env := by rfl) (hpl : (backTo pos (starEach es X.env)).any (·.1) = false := by rfl) :
    PE X (.Call (.Name x p) (e :: es) [] pos) (tCall sp dvs E t) :=
  ⟨fun pins s σ H Q I h => wpAny_Call_Name_kw (ld_glob I hg hm (PySem.W.callWith_K (h₀ := X.base) I.ok.mod.kin hk
    (thn (ha.run pos pins s σ H _ I h) fun us s1 ⟨vs, H1, I1, r, q⟩ => ⟨I1.kIn, runG F gd hr hb hd I1 r q⟩) he hpl) hdb)⟩

/-! ### repr of data -/
theorem call_reprD (gd : X.A.guards = some []) (hu : X.A.units + 64 < cLine) : CallR X (.builtin "repr") (fun xs H Q => ∃ a d, xs = [.ref a] ∧ Dp X.K H (.ref a) d ∧ d.showable = true ∧ d.hasDict = false ∧ d.depth < 60 ∧ d.shown.length ≤ sizeLine ∧ Q (.str d.shown) H) := by
  intro pins s σ H xs us Q I r h
  obtain ⟨a, d, rfl, hd, h1, h2, h3, h4, q⟩ := h
  obtain ⟨u, rfl, ru⟩ := vals1 r
  obtain ⟨as, rd⟩ := Dp.reads I d _ u hd ru
  cases ru
  refine repr_of_reads' rd h1 (PyData.noDict_hsm h2) gd (by omega) (fun _ _ z => z) (fun h' u tk hk => ?_) h4
  exact ⟨.str d.shown, H, I.kept hk, ⟨u, rfl⟩, q⟩
theorem call_reprN : CallR X (.builtin "repr") (fun xs H Q => ∃ i, xs = [.int i] ∧ i.natAbs.log2 < 1920 ∧ Q (.str (toString i)) H) := by
  intro pins s σ H xs us Q I r h
  obtain ⟨i, rfl, hz, q⟩ := h
  obtain ⟨u, rfl, t, rfl⟩ := vals1 r
  exact PySem.P.repr_of_int hz ⟨.str (toString i), H, I.tok _, ⟨_, rfl⟩, q⟩

/-! ### calls by names alone -/
theorem pe_callK0 {CX : CXT} {kws : List Keyword} {tk : TA} {ks : List Str} {g : List Value → List Value → List Value} {gV : List V → List V → List V} (F : FnOk X.prog X.w X.K X.mg X.base CX k f fd ps sp) (hr : Room k X.A) (hg : Gl X x)
    (hm : X.mg x = some (.ref f)) (hk : PySem.W.keepIn X.K (.ref f) = true) (hb : KBinds X.K fd ps ks g gV) (hx : Passes CX X E) (hkw : PK X kws tk)
    (hall : (backToKw pos (keywordEach kws X.env)).all (·.1.isSome) = true := by rfl) (hks : (backToKw pos (keywordEach kws X.env)).filterMap (·.1) = ks := by rfl) (hdb : (x == ("__debug__" : Str)) = false := by decide)
    (hpl : ((backTo pos (starEach [] X.env)).any (·.1) || (backToKw pos (keywordEach kws X.env)).any (·.1.isNone)) = false := by rfl) : PE X (.Call (.Name x p) [] kws pos) (tCallK sp gV E tNil tk) := by
  refine ⟨fun pins s σ H Q I h => wpAny_Call_Name_kw (ld_glob I hg hm (PySem.W.callWith_KW0 (h₀ := X.base) I.ok.mod.kin hk hall ?_ hpl) hdb)⟩
  refine thn (hkw.run pos pins s σ H _ I h) fun ws s2 ⟨zs, H2, I2, rz, q2⟩ => ⟨I2.kIn, ?_⟩
  rw [hks]
  exact run_fnk F hr hb hx I2 .nil rz q2

/-! ### t[::-1], t a tuple -/
end
section
variable {prog : Program} {w : World} {A : Around} {E : Value → Shared → Prop} {s : Shared}
theorem back_adjust (n : Nat) : Builtin.Slice.sliceAdjust none none (-1) (n : Int) = ((n : Int) - 1, -1) := by
  unfold Builtin.Slice.sliceAdjust
  rfl
theorem back_places (n : Nat) : Builtin.Slice.slicePlaces ((n : Int) - 1) (-1) (-1) = n := by
  unfold Builtin.Slice.slicePlaces
  have h1 : ¬ ((-1 : Int) > 0) := by omega
  simp only [h1, if_false, Int.neg_neg, Int.ediv_one]
  split <;> omega
theorem back_pick (xs : Array Value) : ((List.range xs.size).filterMap fun (k : Nat) => xs[((xs.size : Int) - 1 + (k : Int) * (-1)).toNat]?).toArray = xs.toList.reverse.toArray := by
  have e : ((List.range xs.size).filterMap fun (k : Nat) => xs[((xs.size : Int) - 1 + (k : Int) * (-1)).toNat]?) = ((List.range xs.size).map fun k => xs.size - 1 - k).filterMap (xs[·]?) := by
    rw [List.filterMap_map]
    have h : ∀ l : List Nat, l.filterMap (fun (k : Nat) => xs[((xs.size : Int) - 1 + (k : Int) * (-1)).toNat]?) = l.filterMap ((fun x => xs[x]?) ∘ fun k => xs.size - 1 - k) := by
      intro l
      induction l with
      | nil => rfl
      | cons k l ih =>
        have ek : ((xs.size : Int) - 1 + (k : Int) * (-1)).toNat = xs.size - 1 - k := by omega
        simp only [List.filterMap_cons, ih, Function.comp, ek]
    exact h _
  rw [e, PySem.W.krv_range, List.filterMap_reverse, PySem.W.krv_all]
theorem back_applied {sl : Addr} {vl vu vs : Value} {n : Nat} {Q : Int × Int × Nat → Shared → Prop} (hs : s.heap.IsSliceOf sl vl vu vs) (pl : IsPart vl none) (pu : IsPart vu none) (pk : IsPart vs (some (-1)))
    (h : Q ((n : Int) - 1, -1, n) s) : wpAny (model prog w) A (Builtin.Slice.sliceApplied (.ref sl) (pure (n : Int))) Q E s := by
  obtain ⟨os, ho, _, hd⟩ := id hs
  unfold Builtin.Slice.sliceApplied Builtin.Slice.sliceFields
  refine wpAny_bind (wpAny_bind (wpAny_field ho hd (x := vl) rfl (wpAny_bind (wpAny_field ho hd (x := vu) rfl (wpAny_bind (wpAny_field ho hd (x := vs) rfl (wpAny_pure ?_)))))))
  refine wpAny_bind (HT.slicePart_ pk ?_)
  show wpAny _ _ (if ((-1 : Int) == 0) = true then _ else _) _ _ s
  rw [if_neg (by decide)]
  refine wpAny_bind (HT.slicePart_ pl (wpAny_bind (HT.slicePart_ pu (wpAny_bind (wpAny_pure ?_)))))
  show wpAny _ _ (match Builtin.Slice.sliceAdjust none none (-1) (n : Int) with | (lo, hi) => pure (lo, (-1 : Int), Builtin.Slice.slicePlaces lo hi (-1))) _ _ s
  rw [back_adjust n]
  show wpAny _ _ (pure ((n : Int) - 1, (-1 : Int), Builtin.Slice.slicePlaces ((n : Int) - 1) (-1) (-1))) _ _ s
  rw [back_places]
  exact wpAny_pure h
theorem getItem_tuple_back {t sl : Addr} {items : Array Value} {vl vu vs : Value} {Q : Value → Shared → Prop} (ht : IsTup s.heap t items) (hs : s.heap.IsSliceOf sl vl vu vs) (pl : IsPart vl none) (pu : IsPart vu none) (pk : IsPart vs (some (-1)))
    (h : Q (.ref s.heap.objs.size) { s with heap := s.heap.push { cls := .type "tuple", data := .seq items.toList.reverse.toArray } }) (hsz : items.size ≤ sizeLine) : wpAny (model prog w) A (getItem (.ref t) (.ref sl)) Q E s := by
  have hz : sizeOk (.seq items.toList.reverse.toArray) := by
    show items.toList.reverse.toArray.size ≤ sizeLine
    rw [List.size_toArray, List.length_reverse, Array.length_toList]
    exact hsz
  obtain ⟨os, ho, hcs, _⟩ := id hs
  have hT : s.TypeIs (.ref sl) "slice" := ⟨os, ho, hcs⟩
  unfold getItem
  try with_reducible refine wpAny_holding ?_
  first | refine wpAny_bind (wpAny_pure ?_) | skip
  refine wpAny_bind (wpAny_sequenceKey ht.typeIs (by decide) ?_)
  refine wpAny_bind (wpAny_callSpecial?_slot (name := Str.ofString "__getitem__") ht.typeIs PyProof.Rows.slot_tuple_getitem (wpAny_call_entry PyProof.Rows.slot_tuple_getitem ht.typeIs entry_tuple_getitem ?_ (args_tuple_getitem _ _)))
  show wpAny _ _ (Builtin.Tuple.tupleItemsOf (.ref t) >>= _) _ _ s
  refine wpAny_bind (tupleItemsOf_ ht ?_)
  refine wpAny_bind (wpAny_typeOf hT ?_)
  rw [if_pos (by decide)]
  refine wpAny_bind (back_applied hs pl pu pk ?_)
  have hno : ¬ ((((items.size : Int) - 1) == 0 && (-1 : Int) == 1 && items.size == items.size) = true) := by
    intro q
    rw [Bool.and_eq_true, Bool.and_eq_true] at q
    exact absurd (eq_of_beq q.1.2) (by decide)
  show wpAny _ _ (if (((items.size : Int) - 1) == 0 && (-1 : Int) == 1 && items.size == items.size) = true then _ else _) _ _ s
  rw [if_neg hno, back_pick]
  first
    | exact wpAny_bind (m := Builtin.Tuple.tupleExact _) (wpAny_newObj_type (wpAny_pure ⟨_, rfl, wpAny_pure h⟩) hz)
    | exact wpAny_bind (m := Builtin.Tuple.tupleExact _) (wpAny_newObj_type (wpAny_bind (wpAny_pure (wpAny_pure ⟨_, rfl, wpAny_pure h⟩))) hz)
    | exact wpAny_bind (wpAny_bind (m := Builtin.Tuple.tupleExact _) (wpAny_newObj_type (wpAny_pure (wpAny_pure ⟨_, rfl, wpAny_pure h⟩)) hz))
    | exact wpAny_bind (wpAny_bind (m := Builtin.Tuple.tupleExact _) (wpAny_newObj_type (wpAny_pure ⟨_, rfl, wpAny_pure h⟩) hz))
end
section
variable {X : Cx} {x : Str} {p pos : Pos} {e : Expr} {es : List Expr} {t : TA} {k : Nat} {f : Addr} {fd : FuncData} {ps : List Str} {sp : Sp} {ds : List Value} {dvs : List V} {E : XK}
def tRevT (K : PySem.W.Frag) (te : TE) : TE := fun σ H Q => te σ H fun x H1 => ∃ a xs, x = .ref a ∧ SqT K H1 a xs ∧ ∀ p, H1 p = none → Q (.ref p) (upd H1 p (.tup xs.reverse))
theorem pe_revT {te : TE} {k : Nat} {p1 p2 p3 : Pos} (he : PE X e te) : PE X (.Subscript e (.Slice none none (some (.UnaryOp .USub (.Constant (.int 1) k p1) p2)) p3) pos) (tRevT X.K te) := by
  refine ⟨fun pins s σ H Q I h => Subscript_ (thn (he.run pins s σ H _ I h) fun v s1 ⟨y, H1, I1, r1, a, xs, ey, hx, q⟩ => ?_)⟩
  subst ey
  cases r1
  have hst : PO X (some (.UnaryOp .USub (.Constant (.int 1) k p1) p2)) (tPart (tUn (rU fun i => .int (-i)) (tC (.int 1)))) := po_some (pe_un un_neg pe_int)
  refine wpAny_Slice (thn (po_none.run pins s1 σ H1 (fun o H2 => o = none ∧ H2 = H1) I1 ⟨rfl, rfl⟩) fun vl s2 ⟨l, H2, I2, pl, el, e2⟩ => ?_)
  subst el e2
  refine thn (po_none.run pins s2 σ H2 (fun o H3 => o = none ∧ H3 = H2) I2 ⟨rfl, rfl⟩) fun vu s3 ⟨u, H3, I3, pu, eu, e3⟩ => ?_
  subst eu e3
  refine thn (hst.run pins s3 σ H3 (fun o H4 => o = some (-1) ∧ H4 = H3) I3 ⟨1, rfl, -1, rfl, rfl, rfl⟩) fun vs s4 ⟨o, H4, I4, pk, eo, e4⟩ => ?_
  subst eo e4
  have J : Inv X pins σ H4 { s4 with heap := s4.heap.push { cls := .type "slice", data := .fields #[vl, vu, vs] } } := I4.kept (t' := s4.toks) fun b ob q => Heap.get?_push_of_some _ q
  obtain ⟨its, r, ht, hz⟩ := J.tuple hx
  show wpAny (model X.prog X.w) X.A (subscriptTail e (.Slice none none (some (.UnaryOp .USub (.Constant (.int 1) k p1) p2)) p3) (.ref a) (.ref s4.heap.objs.size)) (EP X pins σ Q) X.xe { s4 with heap := s4.heap.push { cls := .type "slice", data := .fields #[vl, vu, vs] } }
  refine tail_any (ops := [.ref a, .ref s4.heap.objs.size]) ht.typeIs (PyProof.Rows.slot_tuple_getitem.lookup) ?_ (by with_unfolding_all rfl)
  refine getItem_tuple_back ht (Heap.IsSliceOf.new _ vl vu vs) pl pu pk ?_ (by rw [List.size_toArray, ← r.length]; exact hz)
  refine ⟨.ref _, _, J.laid (t' := s4.toks) (o := .tup xs.reverse) (fun b ob q => Heap.get?_push_of_some _ q) (Nat.le_refl _) ?_, rfl, q _ (J.hok.fresh (Nat.le_refl _))⟩
  exact ⟨by rw [List.length_reverse]; exact hz, its.reverse, r.reverse, IsTup.new _ _⟩

/-! ### t * k, whatever t is -/
def rRepA (K : PySem.W.Frag) : R2 := fun x y H Q => ∃ l k xs, x = .ref l ∧ y = .int k ∧ SqT K H l xs ∧ 2 ≤ k ∧ k ≤ 1000 ∧ xs.length ≤ 1000 ∧
  (xs = [] → Q (.ref l) H) ∧ (xs ≠ [] → ∀ p, H p = none → Q (.ref p) (upd H p (.tup (List.replicate k.toNat xs).flatten)))
theorem tuple_mul0 (l : Addr) (items : Array Value) (n : Nat) (dd : Option Addr) (sl : Array (Option Value)) (x : Int) (u : Tok) (c0 : (decide (x < -(2 ^ 63)) || decide (x ≥ 2 ^ 63)) = false) (c1 : (items.isEmpty || x == 1) = true) :
    Meets (Builtin.«tuple.__mul__» ⟨[.ref l, .int x u], []⟩) (fun _ R s => s.heap.get? l = some { cls := .type "tuple", dict := dd, data := .seq items n, slots := sl } ∧ R (.ok (.ret (Value.ref l))) s) :=
  .of_wp fun prog w A R s h => by
    obtain ⟨hp, g, d, tk, os⟩ := s
    obtain ⟨hl, h⟩ := h
    have f1 := AutoSeq1.idx_int
    wp_walk using wpAny_loadPart' hl
    repeat (first
      | (refine wpAny_ite_false (decide_eq_false (by rw [c0]; exact Bool.false_ne_true)) ?_; wp_walk using wpAny_loadPart' hl)
      | (refine wpAny_ite_true (decide_eq_true c1) ?_; wp_walk using wpAny_loadPart' hl))
    exact ⟨_, rfl, h⟩
theorem op_repA : OpR X (binaryOp .Mult) (rRepA X.K) := by
  intro pins s σ H x y v u Q I rx ry h
  obtain ⟨l, k, xs, rfl, rfl, hT, h1, h2, hz, q0, q1⟩ := h
  by_cases hx : xs = []
  · subst hx
    cases rx
    obtain ⟨t, rfl⟩ := ry
    obtain ⟨its, r, ⟨⟨cls, dd, data, sl⟩, ho, hc, n, hd⟩, hs⟩ := I.tuple hT
    simp only at hc hd
    subst hc hd
    cases r
    have c0 : (decide (k < -(2 ^ 63)) || decide (k ≥ 2 ^ 63)) = false := by
      rw [decide_eq_false (by omega), decide_eq_false (by omega)] <;> rfl
    exact wpAny_binaryOp_repeat_ref (T := "tuple") (U := "int") (by decide) ⟨_, ho, rfl⟩ (fun s' => typeIs_int s' k t) noFill_tuple_mul F.fills_int_mul F.slot_int_rmul repeat_tuple F.slot_int_index.lookup
      (call_meets F.slot_int_rmul (typeIs_int s k t) F.entry_int_rmul (F.args_int_rmul_2 _ _) (int_rmul_tuple k t l ([] : List Value).toArray n dd sl)
        ⟨ho, rfl, ⟨_, ho, rfl⟩, call_meets F.slot_tuple_mul ⟨_, ho, rfl⟩ F.entry_tuple_mul (F.args_tuple_mul_2 _ _) (tuple_mul0 l ([] : List Value).toArray n dd sl k t c0 (by rfl)) ⟨ho, ⟨.ref l, H, I, rfl, q0 rfl⟩⟩⟩)
  · exact op_repT pins s σ H _ _ v u Q I rx ry ⟨l, k, xs, rfl, rfl, hT, hx, h1, h2, hz, q1 hx⟩
end
end Bf
namespace Bf
open PySem PySem.W PyProof.Rows
/-! ### sorted(t, key=f), f's calls keep all, the frames up to their slots -/
def KS (fs : List Addr) (h h' : Heap) : Prop := ∀ b o, h.get? b = some o → (b ∉ fs → h'.get? b = some o) ∧ ∃ sl, h'.get? b = some { o with slots := sl }
def SS (fs : List Addr) (s s' : Shared) : Prop := KS fs s.heap s'.heap ∧ s'.os = s.os ∧ AllBare s'.gens
theorem KS.trans {fs : List Addr} {h h' h'' : Heap} (x : KS fs h h') (y : KS fs h' h'') : KS fs h h'' := fun b o e => by
  obtain ⟨x1, sl, x2⟩ := x b o e
  refine ⟨fun n => (y b o (x1 n)).1 n, ?_⟩
  obtain ⟨_, sl2, y2⟩ := y b _ x2
  exact ⟨sl2, y2⟩
theorem KS.of {fs : List Addr} {h h' : Heap} (x : ∀ b o, h.get? b = some o → h'.get? b = some o) : KS fs h h' := fun b o e => ⟨fun _ => x b o e, o.slots, x b o e⟩
section
variable {prog : Program} {w : World} {A : Around} {E : Value → Shared → Prop} {s : Shared} {a kS : Addr} {b : Bool} {vs : List Value} {e e1 : Nat} {P : PySem.Fin → Shared → Prop} {kz : List Int} {fs : List Addr}
theorem ints_alike (kz : List Int) : AllAlike (kz.map PyData.int) := fun d hd d' hd' => by
  obtain ⟨i, _, rfl⟩ := List.mem_map.mp hd
  obtain ⟨j, _, rfl⟩ := List.mem_map.mp hd'
  rfl
theorem ints_sortable (kz : List Int) : Sortable (kz.map PyData.int) := .inr fun d hd => by
  obtain ⟨i, _, rfl⟩ := List.mem_map.mp hd
  exact ⟨(fun z => nomatch z), fun xs z => nomatch z⟩
theorem ints_each (g : Heap) {l : List Value} {ks : List Int} (hk : IntsAre l ks) : EachIs (fun v k => ∃ as, Reads g v k as) l (ks.map PyData.int) := by
  induction hk with
  | nil => exact .nil
  | cons n t _ ih => exact .cons ⟨_, Reads.int n t⟩ ih
theorem keyS_rest {f : Value} {s₀ : Shared} (k0 : SS fs s₀ s) (hkS : s₀.heap.get? kS = none) (ha0 : s₀.heap.get? a = none) (fk : kS ∉ fs) (fa : a ∉ fs) (nk : s.heap.get? kS = some (seqObj "list" #[] 0)) (na : s.heap.get? a = some (seqObj "list" #[] e1)) (hka : kS ≠ a)
    (hlen : kz.length = vs.length) (hZ : vs.length ≤ sizeLine) (hu : A.units + 1 < cLine)
    (turn : ∀ (i : Nat) (v : Value) (n : Int), vs[i]? = some v → kz[i]? = some n → ∀ s1 : Shared, SS fs s₀ s1 → wpAny (model prog w) A (call f [v]) (fun u s2 => (∃ t, u = .int n t) ∧ SS fs s1 s2) (fun _ _ => False) s1)
    (h : ∀ s2 out c, SS fs s₀ s2 → s2.heap.get? a = some (seqObj "list" (List.toArray out) c) → KeyedOut b (kz.map PyData.int) vs out → P (.done (.ret .none)) s2) :
    wpAny (model prog w) A (ksk_rest a f b vs.toArray e1 (.ref kS)) P E s := by
  unfold ksk_rest
  refine wpAny_bind (wpAny_rule ?_)
  first
    | rw [List.forIn_toArray]
    | (rw [← Array.forIn_toList]; simp only [List.toList_toArray])
    | rw [← Array.forIn_toList]
  refine wpAny_bind (ksk_fold (fun i z => ∃ kA c, SS fs s₀ z ∧ z.heap.get? kS = some (seqObj "list" kA c) ∧ z.heap.get? a = some (seqObj "list" #[] e1) ∧ IntsAre kA.toList (kz.take i)) vs 0 s ⟨#[], 0, k0, nk, na, by rw [List.take_zero]; exact .nil⟩ ?step ?done)
  case step =>
    rintro j x z hx ⟨kA, c, kp, nk', na', hk⟩
    simp only [Nat.zero_add] at hk ⊢
    have hj : j < vs.length := (List.getElem?_eq_some_iff.mp hx).1
    obtain ⟨n, hn⟩ : ∃ n, kz[j]? = some n := ⟨_, List.getElem?_eq_getElem (by omega)⟩
    have hz : kA.size ≤ vs.length := by
      have h1 := hk.length
      rw [Array.length_toList, List.length_take] at h1
      omega
    refine wpAny_bind (wpAny_attempt (wpAny_mono (turn j x n hx hn z kp) (fun v z2 he => ?_) fun _ _ hF => hF.elim))
    obtain ⟨⟨t, rfl⟩, g1, g2, g3⟩ := he
    try dsimp only
    have nk2 : z2.heap.get? kS = some (seqObj "list" kA c) := (g1 _ _ nk').1 fk
    have na2 : z2.heap.get? a = some (seqObj "list" #[] e1) := (g1 _ _ na').1 fa
    have s1 := Heap.SameBut.update z2.heap kS (Obj.mapSeq (·.push (.int n t)))
    obtain ⟨c2, hc2⟩ : ∃ c2, (z2.heap.update kS (Obj.mapSeq (·.push (.int n t)))).get? kS = some (seqObj "list" (kA.push (.int n t)) c2) := ⟨_, get?_update_seq nk2 (·.push (.int n t))⟩
    refine wpAny_bind (listUpdate_at nk2 rfl ?_ (Nat.le_trans hz hZ) (Nat.le_trans (Nat.le_of_eq (Array.size_push ..)) (Nat.succ_le_succ (Nat.le_trans hz hZ))))
    refine wpAny_pure ⟨rfl, kA.push (.int n t), c2, ⟨?_, g2.trans kp.2.1, g3⟩, hc2, (s1.2 a hka.symm).trans na2, ?_⟩
    · have q := kp.1.trans g1
      intro d o ed
      obtain ⟨q1, sl, q2⟩ := q d o ed
      have hd : d ≠ kS := fun z => by rw [z, hkS] at ed; cases ed
      exact ⟨fun m => (s1.2 d hd).trans (q1 m), sl, (s1.2 d hd).trans q2⟩
    · have ek : kz.take (j + 1) = kz.take j ++ [n] := by rw [List.take_add_one, hn]; simp
      have ea : (kA.push (Value.int n t)).toList = kA.toList ++ [Value.int n t] := by simp
      rw [ea, ek]
      exact ksk_snoc hk
  case done =>
    rintro z ⟨kA, c, kp, nk', na', hk⟩
    have e3 : kz.take (0 + vs.length) = kz := List.take_of_length_le (by omega)
    rw [e3] at hk
    have hk' : EachIs (fun v k => ∃ as, Reads z.heap v k as) kA.toList (kz.map PyData.int) := ints_each z.heap hk
    have hsz : kA.size = vs.length := by
      have h1 := hk.length
      rw [Array.length_toList] at h1
      omega
    try dsimp only
    refine wpAny_bind (listItems_at nk' rfl ?_)
    refine keyH_end (s := z) (κ := dataKind z.heap (kz.map PyData.int)) (h₁ := L2.hidT z.heap (fun d => if d = kS then some (.own 0) else none)) (fun d o hd ed => (L2.of_hidT ed).1) ?_ nk' na' hka
      (SortsAt.data (s := z) hk' (ints_alike kz) (ints_sortable kz) fun d hd => ?_) hsz hZ fun h3 tk3 c3 k3 n3 => h _ _ c3 ⟨?_, kp.2.1, kp.2.2⟩ n3 ⟨z.heap, kA.toList, ints_alike kz, rfl, hk'⟩
    · cases q : (L2.hidT z.heap (fun d => if d = kS then some (.own 0) else none)).get? kS with
      | none => rfl
      | some o =>
        have q2 := (L2.of_hidT q).2
        rw [if_pos rfl] at q2
        cases q2
    · obtain ⟨i, _, rfl⟩ := List.mem_map.mp hd
      show A.units + 0 < cLine
      omega
    · intro d o ed
      obtain ⟨q1, sl, q2⟩ := kp.1 d o ed
      have hd : d ≠ kS := fun z => by rw [z, hkS] at ed; cases ed
      have hda : d ≠ a := fun z => by rw [z, ha0] at ed; cases ed
      have up : ∀ o', z.heap.get? d = some o' → h3.get? d = some o' := fun o' e' => k3 d o' hda (L2.hidT_get e' (if_neg hd))
      exact ⟨fun m => up _ (q1 m), sl, up _ q2⟩
theorem keyS_tree {f : Value} {n : Nat} {s₀ : Shared} (k0 : SS fs s₀ s) (ha0 : s₀.heap.get? a = none) (hfs : ∀ d ∈ fs, d < s.heap.objs.size) (fa : a ∉ fs) (ho : s.heap.get? a = some (seqObj "list" vs.toArray n)) (hlen : kz.length = vs.length) (hZ : vs.length ≤ sizeLine) (hu : A.units + 1 < cLine)
    (turn : ∀ (i : Nat) (v : Value) (n : Int), vs[i]? = some v → kz[i]? = some n → ∀ s1 : Shared, SS fs s₀ s1 → wpAny (model prog w) A (call f [v]) (fun u s2 => (∃ t, u = .int n t) ∧ SS fs s1 s2) (fun _ _ => False) s1)
    (h : ∀ s2 out c, SS fs s₀ s2 → s2.heap.get? a = some (seqObj "list" (List.toArray out) c) → KeyedOut b (kz.map PyData.int) vs out → P (.done (.ret .none)) s2) : wpAny (model prog w) A (ksk_tree a f b) P E s := by
  have la : a < s.heap.objs.size := Heap.lt_size ho
  obtain ⟨e1, o1⟩ : ∃ e1, (s.heap.update a (Obj.mapSeq fun _ => (#[] : Array Value))).get? a = some (seqObj "list" #[] e1) := ⟨_, get?_update_seq ho fun _ => #[]⟩
  have zS : ((s.heap.update a (Obj.mapSeq fun _ => (#[] : Array Value))).push (seqObj "tuple" vs.toArray 0)).objs.size = s.heap.objs.size + 1 := by rw [size_push', Heap.size_update]
  have nS : s₀.heap.get? (s.heap.objs.size + 1) = none := by
    cases q : s₀.heap.get? (s.heap.objs.size + 1) with
    | none => rfl
    | some o =>
      obtain ⟨_, sl, q2⟩ := k0.1 _ _ q
      exact absurd (Heap.lt_size q2) (Nat.not_lt.mpr (Nat.le_succ _))
  unfold ksk_tree
  refine wpAny_bind (listItems_at ho rfl ?_)
  refine wpAny_bind (listUpdate_at ho rfl ?_ (by rw [List.size_toArray]; exact hZ) (Nat.zero_le _))
  refine wpAny_bind (seqEpoch_at o1 rfl ?_)
  refine wpAny_bind (wpAny_newTuple ?_ (by show vs.length ≤ _; exact hZ))
  refine wpAny_bind (wpAny_newList ?_ (Nat.zero_le _))
  refine wpAny_holding ?_
  refine keyS_rest (kz := kz) (fs := fs) (s₀ := s₀) (s := { s with heap := ((s.heap.update a (Obj.mapSeq fun _ => (#[] : Array Value))).push (seqObj "tuple" vs.toArray 0)).push (seqObj "list" #[] 0) })
    (kS := ((s.heap.update a (Obj.mapSeq fun _ => (#[] : Array Value))).push (seqObj "tuple" vs.toArray 0)).objs.size) ⟨?_, k0.2.1, k0.2.2⟩ (by rw [zS]; exact nS) ha0 (fun z => ?_) fa (Heap.get?_push_size _ rfl) (Heap.get?_push_of_some _ (Heap.get?_push_of_some _ o1))
    (by rw [zS]; exact Nat.ne_of_gt (Nat.lt_succ_of_lt la)) hlen hZ hu turn h
  · intro d o ed
    obtain ⟨q1, sl, q2⟩ := k0.1 d o ed
    have hd : d ≠ a := fun z => by rw [z, ha0] at ed; cases ed
    have up : ∀ o', s.heap.get? d = some o' → (((s.heap.update a (Obj.mapSeq fun _ => (#[] : Array Value))).push (seqObj "tuple" vs.toArray 0)).push (seqObj "list" #[] 0)).get? d = some o' := fun o' e' =>
      Heap.get?_push_of_some _ (Heap.get?_push_of_some _ ((Heap.get?_update_ne _ _ _ _ hd).trans e'))
    exact ⟨fun m => up _ (q1 m), sl, up _ q2⟩
  · have q := hfs _ z
    rw [zS] at q
    exact absurd q (Nat.not_lt.mpr (Nat.le_succ _))
theorem collect_tup {t : Addr} {Q : List Value → Shared → Prop} (ht : IsTup s.heap t vs.toArray) (h : Q vs { s with heap := (s.heap.push (seqObj "list" #[] 0)).update s.heap.objs.size (Obj.mapSeq (· ++ vs.toArray)) }) (hsz : vs.length ≤ sizeLine) :
    wpAny (model prog w) A (collect (.ref t)) Q E s := by
  obtain ⟨o, ho, hc, n, hd⟩ := id ht
  unfold collect
  refine wpAny_bind (wpAny_runValue (codeAny_builtin entry_proto_collect' ?_))
  show wpAny _ _ (do again (.builtin "list.__iadd__" ⟨[← newList [], .ref t], []⟩)) _ _ s
  refine wpAny_bind (wpAny_newList (wpAny_pure ⟨Code.quiet_builtin _ (by decide +kernel), codeAny_builtin entry_list_iadd' ?_⟩))
  show wpAny _ _ (Builtin.List.listExtendWith (.ref s.heap.objs.size) (.ref t) (.ref s.heap.objs.size)) _ _ { s with heap := s.heap.push (seqObj "list" #[] 0) }
  unfold Builtin.List.listExtendWith
  have o2 : (s.heap.push (seqObj "list" #[] 0)).get? t = some o := Heap.get?_push_of_some _ ho
  refine wpAny_bind (wpAny_typeOf (T := "tuple") ⟨o, o2, hc⟩ ?_)
  have hT : (Value.type "tuple" == Value.type "tuple") = true := by rfl
  rw [if_pos (by rw [hT]; simp)]
  refine wpAny_bind (listItems_at o2 hd ?_)
  refine wpAny_bind (listItems_at (xs := #[]) (n := 0) (Heap.get?_push_size _ rfl) rfl ?_)
  rw [if_neg (by simp)]
  refine wpAny_bind (listUpdate_at (xs := #[]) (n := 0) (Heap.get?_push_size _ rfl) rfl ?_ (Nat.zero_le _) (by show (#[] ++ vs.toArray).size ≤ sizeLine + 1; simp only [Array.size_append, List.size_toArray, List.length_nil]; omega))
  refine wpAny_pure ?_
  show wpAny (model prog w) A (do
      let x ← load s.heap.objs.size
      match x.data with
      | .seq xs _ => pure xs.toList
      | _ => unsupported "internal:collect") Q E { s with heap := (s.heap.push (seqObj "list" #[] 0)).update s.heap.objs.size (Obj.mapSeq (· ++ vs.toArray)) }
  refine wpAny_bind (wpAny_load (get?_update_seq (Heap.get?_push_size _ rfl) _) ?_)
  show wpAny _ _ (pure ((#[] : Array Value) ++ vs.toArray).toList) Q E _
  rw [show ((#[] : Array Value) ++ vs.toArray).toList = vs by simp]
  exact wpAny_pure h
theorem sortedT {t : Addr} {f : Value} {kw : List (Str × Value)} {Q : Value → Shared → Prop} (bare : AllBare s.gens) (hfs : ∀ d ∈ fs, d < s.heap.objs.size) (ht : IsTup s.heap t vs.toArray) (hlen : kz.length = vs.length) (hZ : vs.length ≤ sizeLine) (hu : A.units + 3 < cLine)
    (ha1 : argsOk "sorted" ⟨[.ref t], kw⟩) (ha2 : ∀ x, argsOk "list.sort" ⟨[.ref x], kw⟩) (hk : ∀ x, Builtin.«list.sort» ⟨[.ref x], kw⟩ = ksk_tree x f b)
    (turn : ∀ (i : Nat) (v : Value) (n : Int), vs[i]? = some v → kz[i]? = some n → ∀ s1 : Shared, SS fs s s1 → wpAny (model prog w) A.in1.in1 (call f [v]) (fun u s2 => (∃ t, u = .int n t) ∧ SS fs s1 s2) (fun _ _ => False) s1)
    (h : ∀ s2 out c, SS fs s s2 → s2.heap.get? (s.heap.objs.size + 1) = some (seqObj "list" (List.toArray out) c) → KeyedOut b (kz.map PyData.int) vs out → Q (.ref (s.heap.objs.size + 1)) s2) : wpAny (model prog w) A (call (.builtin "sorted") [.ref t] kw) Q E s := by
  refine call_function_entry_kw kind_sorted plain_sorted entry_sorted ha1 ?_
  unfold Builtin.«sorted»
  refine wpAny_bind (m := checkCount "sorted" 1 1 _) (wpAny_pure ?_)
  refine wpAny_bind (collect_tup ht ?_ hZ)
  refine wpAny_bind (wpAny_newList ?_ hZ)
  have z1 : ((s.heap.push (seqObj "list" #[] 0)).update s.heap.objs.size (Obj.mapSeq (· ++ vs.toArray))).objs.size = s.heap.objs.size + 1 := by rw [Heap.size_update, size_push']
  show wpAny _ _ _ _ _ { s with heap := copyHeap s.heap vs }
  rw [z1]
  refine wpAny_bind (wpAny_holding (wpAny_call_entry_kw slot_list_sort ⟨_, copyHeap_at s.heap vs, rfl⟩ entry_list_sort ?body (ha2 _)))
  case body =>
    show wpAny (model prog w) A.in1.in1 (Builtin.«list.sort» ⟨[.ref (s.heap.objs.size + 1)], kw⟩) _ _ _
    rw [hk]
    have fresh : s.heap.get? (s.heap.objs.size + 1) = none := Heap.get?_none_of_le (Nat.le_succ _)
    refine keyS_tree (kz := kz) (fs := fs) (s₀ := s) (s := { s with heap := copyHeap s.heap vs }) ⟨KS.of fun d o q => copyHeap_old q, rfl, bare⟩ fresh (fun d hd => ?_) (fun z => ?_) (copyHeap_at s.heap vs) hlen hZ (by show A.units + 1 + 1 + 1 < cLine; omega) turn fun s2 out c k3 n3 ko => ⟨_, rfl, ?_⟩
    · exact Nat.lt_trans (hfs d hd) (Nat.lt_trans (Nat.lt_succ_self _) (Heap.lt_size (copyHeap_at s.heap vs)))
    · exact absurd (hfs _ z) (Nat.not_lt.mpr (Nat.le_succ _))
    · exact wpAny_pure ⟨_, rfl, h s2 out c k3 n3 ko⟩
end
end Bf
namespace Bf
open PySem PySem.Spec PyProof.Rows L2 LamX NdefX
section
variable {X : Cx} {pins : List (Addr × Obj)} {σ : L2.St} {H : Hp} {s s1 : Shared}
/-- all is kept, the frames up to slots; a list is new at D, perhaps -/
theorem inv_SS {H' : Hp} (I : Inv X pins σ H s) (k : SS (frs X.stack) s s1) (h1 : ∀ b o, H b = some o → H' b = some o) (h2 : ∀ b, b < s.heap.objs.size → H b = none → H' b = none)
    (h3 : ∀ b o, H' b = some o → H b = some o ∨ ObjOk X.prog X.w H' s1.heap b o) : Inv X pins σ H' s1 := by
  obtain ⟨k1, k2, k3⟩ := k
  have un : Un (frs X.stack) [] H H' s.heap s1.heap := ⟨fun b o e n hb _ => (k1 b o e).1 hb, fun b o e n hb _ => (k1 b o e).2, fun b o e n _ => h2 b (Heap.lt_size e) n, fun b o e _ => let ⟨sl, q⟩ := (k1 b o e).2; ⟨_, q⟩, fun b _ e => h1 b _ e, fun b _ _ e => h1 b _ e, fun b ps e => ⟨#[], by rw [h1 b _ e]; simp⟩⟩
  have hok : HOk X.prog X.w H' s1.heap := fun a o e => by
    rcases h3 a o e with q | q
    · refine (I.hok a o q).stay (fun b u hb r => (k1 b u r).1 fun z => ?_) (fun b r => h1 b _ r) fun b xs r => h1 b _ r
      have n := I.stkFree b z
      rcases hb with hb | hb
      · rw [hb, q] at n; cases n
      · rw [hb] at n; cases n
    · exact q
  obtain ⟨hh, g, d, t, os'⟩ := s1
  obtain rfl : os' = s.os := k2
  exact I.call (h' := hh) (g' := g) (d' := d) (t' := t) (ch := []) un hok k3 (fun b z => absurd z (by simp))
theorem inv_SS0 (I : Inv X pins σ H s) (k : SS (frs X.stack) s s1) : Inv X pins σ H s1 := inv_SS I k (fun _ _ e => e) (fun _ _ n => n) fun _ _ e => .inl e
def Hn : Hp := fun _ => none
abbrev lamF (X : Cx) (params : Arguments) (scope : Scope) (c' : Addr) : NF := ⟨"<lambda>", X.env.qual ++ "<lambda>", params, [], scope, cloFrom X.env.cells scope.names [], c'⟩
theorem lam_call {params : Arguments} {body : Expr} {scope : Scope} {f c' : Addr} {pm ctv v : Value} {x : Str} {fr N : List Str} {js : List Nat} {k : Nat} {t : TE} {n m : Int} (I : Inv X pins σ H s)
    (hf : s.heap.get? f = some (PySem.W.kla_obj "<lambda>" (X.env.qual ++ "<lambda>") params body scope (cloFrom X.env.cells scope.names []) pm c' ctv)) (hfr : f ∉ frs X.stack) (hc : H c' = some (CodeO c' (X.env.qual ++ "<lambda>")))
    (S : NScope N [x] fr scope) (cp : X.Ok → Caps X (cloFrom X.env.cells scope.names []) fr js)
    (hbind : ∀ (q : Str) (cl : List (Str × Addr)) (pm cv ctv u : Value), bindArgs (PySem.W.kla_fn "<lambda>" q params body scope cl pm cv ctv) ⟨[u], []⟩ = pure [(x, u)]) (hr : Room (k + 3) X.A) (ks : SS (frs X.stack) s s1)
    (hbody : ∀ (A : Around) (outer : List Env) (z : Shared) (G : Hp), Room k (A.deeper (envF (lamF X params scope c') f z.heap.objs.size)) → PE (ncx CX0 X.prog X.w X.K X.mg X.base N (lamF X params scope c') f A outer z G E0) body t)
    (ht : ∀ Q : VK, Q (.int m) Hn → t (startF N [.int n] (js.map (slotAt σ))) Hn Q) (hv : ∃ t, v = .int n t) :
    wpAny (model X.prog X.w) X.A.in1.in1 (call (.ref f) [v]) (fun u s2 => (∃ t, u = .int m t) ∧ SS (frs X.stack) s1 s2) (fun _ _ => False) s1 := by
  have I1 := inv_SS0 I ks
  have of1 := (ks.1 f _ hf).1 hfr
  have en := I1.env0
  have e0 : Env0 X.prog X.w X.K X.mg X.base X.A.in1.in1 X.stack s1 Hn := ⟨en.frames, en.mod, fun b o q => ⟨(en.bs b o q).1, rfl⟩, en.bsz, en.funs, fun _ _ => rfl, (fun a o z => nomatch z), en.bare⟩
  have C0 := cells_of I1 (cp I1.ok)
  have C : CellsAt (cloFrom X.env.cells scope.names []) fr (js.map (slotAt σ)) s1.heap Hn := ⟨C0.len, fun y c e => ⟨rfl, (C0.all y c e).2⟩, C0.inj, C0.has⟩
  obtain ⟨⟨oc, vs, tt, hoc, hdc, hvc⟩, _, _⟩ := I1.hok c' _ hc
  have hr1 : Room (k + 1) X.A.in1.in1 := hr.in1.in1
  have rc : codeAny (model X.prog X.w) X.A.in1.in1 (.call (.ref f) ⟨[v], []⟩) (CR CX0 X.stack X.prog X.w Hn s1 (fun u _ => u = .int m) E0) s1 := by
    refine PySem.W.kla_callFunE hr1.depth of1 rfl S.co S.gen rfl ⟨c', oc, vs, tt, rfl, hoc, hdc, hvc⟩ ?_
    rw [hbind]
    refine wpAny_pure (wpAny_newFunctionEnv S.nocell (fun y hy => ?_) (fun h₁ hns hsb => ⟨I1.nolimit.fresh _ hsb, ?_⟩) S.kind)
    · have e : y = (x, v) := by simpa using hy
      rw [e]
      exact S.par x (by simp)
    · show codeAny _ _ (.expr body (envF (lamF X params scope c') f s1.heap.objs.size)) _ _
      have kp : ∀ b o, s1.heap.get? b = some o → h₁.get? b = some o := fun b o e => hsb.extBut b o (Nat.ne_of_lt (Heap.lt_size e)) (Heap.get?_push_of_some _ e)
      have J : Inv (ncx CX0 X.prog X.w X.K X.mg X.base N (lamF X params scope c') f X.A.in1.in1 X.stack s1 Hn E0) [] (startF N [.int n] (js.map (slotAt σ))) Hn { s1 with heap := h₁, toks := s1.toks + ([(x, v)] : List (Str × Value)).length } :=
        inv_startN (ps := [x]) (us := [v]) S hr1.hd e0 rfl (.cons hv .nil) C hns kp
      refine PySem.W.kla_codeExpr (wpAny_mono ((hbody _ _ s1 Hn (hr1.deeper _)).run [] _ _ Hn (fun u _ => u = .int m) J (ht (fun u _ => u = .int m) rfl)) (fun u z hq => ?_) fun e z hq => hq)
      obtain ⟨w', H', J', rv, q⟩ := hq
      exact ⟨w', H', J'.os, J'.bare, J'.base, J'.hok, rv, q⟩
  refine wpAny_call (codeAny_mono rc fun r z hq => ?_)
  match r, hq with
  | .error _, hq => exact hq.elim
  | .ok .next, hq => exact False.elim hq
  | .ok .brk, hq => exact False.elim hq
  | .ok .cont, hq => exact False.elim hq
  | .ok (.ret u), hq =>
    obtain ⟨u', H', e1, e2, un, _, rv, q⟩ := hq
    obtain rfl : u' = .int m := q
    exact ⟨rv, fun b o e => ⟨fun hb => un.keep b o e rfl hb (by simp), un.any e rfl (by simp)⟩, e1, e2⟩
/-! ### sorted(e, key=lambda x: ..) -/
def tSortLam (T : List (Addr × Str)) (K : PySem.W.Frag) (t : TE) (N : List Str) (js : List Nat) (te : TE) : TE := fun σ H Q => te σ H fun v H1 => ∃ (a : Addr) (ns : List Int) (g : Int → Int), [v] = [V.ref a] ∧ SqT K H1 a (ns.map V.int) ∧ Tabs T H1 ∧
  (∀ n ∈ ns, ∀ Q' : VK, Q' (.int (g n)) Hn → t (startF N [.int n] (js.map (slotAt σ))) Hn Q') ∧
  ∀ (H2 : Hp) (p : Addr) (ns' : List Int), ExtN H1 H2 → Tabs T H2 → H2 p = none → ns'.Perm ns → ns'.Pairwise (fun i j => g i ≤ g j) → Q (.ref p) (upd H2 p (.lst (ns'.map V.int)))
theorem ext_tup {K : PySem.W.Frag} {H1 H2 : Hp} {a : Addr} {xs : List V} (e : ExtN H1 H2) (h : SqT K H1 a xs) : SqT K H2 a xs := by
  rcases h with (h | ⟨o, h⟩) | h
  · exact .inl (.inl (e _ _ h (fun ps z => nomatch z)))
  · exact .inl (.inr ⟨o, e _ _ h (fun ps z => nomatch z)⟩)
  · exact .inr h
theorem each_ints : ∀ {us : List Value} {ns : List Int}, IntsAre us ns → PySem.W.EachIs (fun (v : Value) (n : Int) => ∃ t, v = .int n t) us ns
  | _, _, .nil => .nil
  | _, _, .cons n t r => .cons ⟨t, rfl⟩ (each_ints r)
theorem ints_eachV : ∀ {us : List Value} {ns : List Int}, PySem.W.EachIs (fun (v : Value) (n : Int) => ∃ t, v = .int n t) us ns → Vals (ns.map V.int) us
  | _, _, .nil => .nil
  | _, _, .cons r q => .cons r (ints_eachV q)
theorem int_le (g : Int → Int) : PySem.W.dataLe false (fun n => PyData.int (g n)) = fun i j => decide (g i ≤ g j) := by
  funext i j
  show (!PySem.W.dataLt (.int (g j)) (.int (g i))) = decide (g i ≤ g j)
  rw [PySem.W.dataLt_int]
  by_cases h : g i ≤ g j
  · rw [decide_eq_true h, decide_eq_false (by omega)]; rfl
  · rw [decide_eq_false h, decide_eq_true (by omega)]; rfl
theorem pe_sortLam {T : List (Addr × Str)} {c P : Addr} {e : Expr} {te t : TE} {params : Arguments} {body : Expr} {scope : Scope} {x : Str} {fr N : List Str} {js : List Nat} {k : Nat} {p pos lpos kpos : Pos} (ha : PA X [e] (tCons te tNil)) (hg : Gl X "sorted") (hm : X.mg "sorted" = none)
    (TB : TabB X.base X.mg c P) (hcode : X.env.code = .ref c) (hmT : (P, X.env.qual ++ "<lambda>") ∈ T) (hu : ∀ p ∈ T, p.1 = P → p.2 = X.env.qual ++ "<lambda>") (hdef : defaultsOf params X.env = ([], []))
    (S : NScope N [x] fr scope) (hfree : ∀ y ∈ scope.names, y.2 = .free → X.env.scope.names.lookup y.1 = some .cell ∨ X.env.scope.names.lookup y.1 = some .free) (cp : X.Ok → Caps X (cloFrom X.env.cells scope.names []) fr js)
    (hbind : ∀ (q : Str) (cl : List (Str × Addr)) (pm cv ctv u : Value), bindArgs (PySem.W.kla_fn "<lambda>" q params body scope cl pm cv ctv) ⟨[u], []⟩ = pure [(x, u)]) (hr : Room (k + 3) X.A)
    (hbody : ∀ (f c' : Addr) (A : Around) (outer : List Env) (z : Shared) (G : Hp), Room k (A.deeper (envF (lamF X params scope c') f z.heap.objs.size)) → PE (ncx CX0 X.prog X.w X.K X.mg X.base N (lamF X params scope c') f A outer z G E0) body t)
    (na : backTo pos (starEach [e] X.env) = (false, eval e X.env) :: backTo pos (starEach [] X.env) := by rfl) (hpl : (backTo pos (starEach [e] X.env)).any (·.1) = false := by rfl) :
    PE X (.Call (.Name "sorted" p) [e] [⟨some "key", .Lambda params body scope lpos, kpos⟩] pos) (tSortLam T X.K t N js te) := by
  refine ⟨fun pins s σ H Q I h => ?_⟩
  refine wpAny_Call_Name_kw (ld_blt I hg hm (show bootBuiltins "sorted" = some (.builtin "sorted") by decide +kernel) ?_ (by decide) (by decide))
  refine PyProof.Rows.callWith_kw (thn (ha.run pos pins s σ H (fun vs H1 => ∃ (a : Addr) (ns : List Int) (g : Int → Int), vs = [V.ref a] ∧ SqT X.K H1 a (ns.map V.int) ∧ Tabs T H1 ∧ (∀ n ∈ ns, ∀ Q' : VK, Q' (.int (g n)) Hn → t (startF N [.int n] (js.map (slotAt σ))) Hn Q') ∧
      ∀ (H2 : Hp) (p : Addr) (ns' : List Int), ExtN H1 H2 → Tabs T H2 → H2 p = none → ns'.Perm ns → ns'.Pairwise (fun i j => g i ≤ g j) → Q (.ref p) (upd H2 p (.lst (ns'.map V.int)))) I h) fun us s1 ⟨vs, H1, I1, r1, q1⟩ => ?_) na hpl (by rfl) (by rfl)
  obtain ⟨a, ns, g, ev, hT, tb, hk, q⟩ : ∃ (a : Addr) (ns : List Int) (g : Int → Int), vs = [.ref a] ∧ SqT X.K H1 a (ns.map V.int) ∧ Tabs T H1 ∧ (∀ n ∈ ns, ∀ Q' : VK, Q' (.int (g n)) Hn → t (startF N [.int n] (js.map (slotAt σ))) Hn Q') ∧
      ∀ (H2 : Hp) (p : Addr) (ns' : List Int), ExtN H1 H2 → Tabs T H2 → H2 p = none → ns'.Perm ns → ns'.Pairwise (fun i j => g i ≤ g j) → Q (.ref p) (upd H2 p (.lst (ns'.map V.int))) := q1
  subst ev
  rw [Vals.ref1 r1]
  show wpAny _ _ (evalAll ((do let v ← eval (.Lambda params body scope lpos) X.env; standAt pos; pure v) :: [])) _ _ s1
  refine wpAny_evalAll_cons (wpAny_bind (lam_make2 I1 TB hcode hmT hu tb hdef (fun y hy e => (hfree y hy e).elim (fun z => I1.ok.has _ (.inl z)) fun z => I1.ok.has _ (.inr z)) fun f c' pm ctv H2 s2 I2 eN T2 hf hfn hfr hco => wpAny_bind (wpAny_standAt (wpAny_pure (wpAny_evalAll_nil ?_)))))
  obtain ⟨its, rv, ht, hz⟩ := I2.tuple (ext_tup eN hT)
  have hI : IntsAre its ns := intsAre_of rv
  have hl : ns.length = its.length := by
    have := rv.length
    rw [List.length_map] at this
    exact this
  have hu0 := hr.un
  refine sortedT (fs := frs X.stack) (kz := ns.map g) (vs := its) (b := false) I2.bare (fun d hd => ?_) ht (by rw [List.length_map]; exact hl) (by rw [← rv.length]; exact hz) (by omega) (ksk_s1 _ _) (fun _ => ksk_l1 _ _) (fun y => ksk_t1 f y) (fun i v n hv hn s3 hs3 => ?_) (fun s3 out cc k3 n3 ko => ?_)
  · obtain ⟨_, o, ho, _⟩ := I2.stack.mem hd
    exact Heap.lt_size ho
  · rw [List.getElem?_map] at hn
    cases e : ns[i]? with
    | none => rw [e] at hn; cases hn
    | some m =>
      rw [e] at hn
      obtain rfl : g m = n := Option.some.inj hn
      have hvi : ∃ t, v = .int m t := by
        obtain ⟨u, hu1, hu2⟩ := Vals.get rv (show (ns.map V.int)[i]? = some (.int m) by rw [List.getElem?_map, e]; rfl)
        rw [hv] at hu1
        cases hu1
        exact hu2
      exact lam_call I2 hf hfr hco S cp hbind hr hs3 (fun A outer z G hrr => hbody f c' A outer z G hrr) (hk m (List.mem_of_getElem? e)) hvi
  · rw [List.map_map] at ko
    have eo := PySem.W.keyedOut_each (fun n => PyData.int (g n)) ko (each_ints hI)
    rw [int_le] at eo
    have vo := ints_eachV eo
    have nD : H2 (s2.heap.objs.size + 1) = none := I2.hok.fresh (Nat.le_succ _)
    have I3 : Inv X pins σ (upd H2 (s2.heap.objs.size + 1) (.lst ((ns.mergeSort fun i j => decide (g i ≤ g j)).map V.int))) s3 := by
      refine inv_SS I2 k3 (fun b o e => by rw [upd_ne (ne_of_none e nD)]; exact e) (fun b hb n => ?_) (fun b o e => ?_)
      · rw [upd_ne (Nat.ne_of_lt (Nat.lt_succ_of_lt hb))]
        exact n
      · by_cases eb : b = s2.heap.objs.size + 1
        · subst eb
          rw [upd_same] at e
          cases e
          refine .inr ⟨?_, out, cc, vo, n3⟩
          rw [List.length_map, (List.mergeSort_perm ns _).length_eq, hl, ← rv.length]
          exact hz
        · rw [upd_ne eb] at e
          exact .inl e
    refine ⟨.ref (s2.heap.objs.size + 1), _, I3, rfl, q H2 _ _ eN T2 nD (List.mergeSort_perm ns _) ?_⟩
    have := List.pairwise_mergeSort (le := fun i j => decide (g i ≤ g j)) (fun i j l h1 h2 => decide_eq_true (Int.le_trans (of_decide_eq_true h1) (of_decide_eq_true h2))) (fun i j => by
      rcases Int.le_total (g i) (g j) with h | h
      · simp [h]
      · simp [h]) ns
    exact this.imp fun h => of_decide_eq_true h
end
end Bf
namespace Bf
open PySem PySem.Spec PyProof.Rows L2 LamX
/-- what is tracked at the law's call: the tables ts, empty; the script at a, locked, where it isn't written -/
def G0 (K : PySem.W.Frag) (ts : List Addr) (a : Addr) (ob : Obj) (xs : List V) : Hp := fun b =>
  if b ∈ ts then some (.tbl #[]) else if b = a ∧ (K.lookup a).isNone = true then some (.frz ob (.lst xs)) else none
section
variable {K : PySem.W.Frag} {ts : List Addr} {a b : Addr} {ob : Obj} {xs : List V}
theorem g0_tab (h : b ∈ ts) : G0 K ts a ob xs b = some (.tbl #[]) := if_pos h
theorem g0_scr (h : a ∉ ts) (n : K.lookup a = none) : G0 K ts a ob xs a = some (.frz ob (.lst xs)) := (if_neg h).trans (if_pos ⟨rfl, by rw [n]; rfl⟩)
theorem g0_some {u : HO} (h : G0 K ts a ob xs b = some u) : (b ∈ ts ∧ u = .tbl #[]) ∨ (b ∉ ts ∧ b = a ∧ K.lookup a = none ∧ u = .frz ob (.lst xs)) := by
  unfold G0 at h
  by_cases m : b ∈ ts
  · rw [if_pos m] at h
    exact .inl ⟨m, (Option.some.inj h).symm⟩
  · rw [if_neg m] at h
    by_cases c : b = a ∧ (K.lookup a).isNone = true
    · rw [if_pos c] at h
      exact .inr ⟨m, c.1, Option.isNone_iff_eq_none.mp c.2, (Option.some.inj h).symm⟩
    · rw [if_neg c] at h
      cases h
end
theorem law_tabs {P : Program} {w : World} {K : PySem.W.Frag} {mg mb : Str → Option Value} {k : Nat} {fa a : Addr} {cs : List (Addr × Addr)} {fd : FuncData} {x : Str} {sp : Sp} {z : Shared} {vs : List Value} {ns : List Int}
    (KI : K.In z.heap) (n1 : z.heap.Ns mainGlobals mg) (n2 : z.heap.Ns builtinsNs mb) (n3 : ∀ y : Str, y ≠ "__name__" → mb y = bootBuiltins y) (n4 : z.heap.NoLimit) (n5 : z.gens = #[])
    (t1 : ∀ p ∈ cs, z.heap.get? p.2 = some { cls := .none, data := .fields #[] }) (t2 : ∀ p ∈ cs, K.lookup p.2 = none) (t3 : ∀ p ∈ cs, PySem.W.CodeHd z.heap p.1 p.2)
    (t4 : ∃ (bm : Addr) (ob : Obj), mg "__builtins__" = some (.ref bm) ∧ bm ≠ builtinsNs ∧ z.heap.get? bm = some ob ∧ ob.cls = .type "module" ∧ ob.dict = some builtinsNs ∧ ob.data = .plain)
    (oa : z.heap.get? a = some { cls := .type "list", data := .seq vs.toArray }) (ia : IntsAre vs ns) (la : ns.length ≤ sizeLine) (rm : Room k callerA)
    (F : ∀ base : Heap, K.In base → base.Ns mainGlobals mg → (∀ p ∈ cs, TabB base mg p.1 p.2) → FnG P w K mg base k fa fd [x] sp) (bd : ∀ (s : Shared) (u : Value), BindsTo s fd ⟨[u], []⟩ [(x, u)])
    (hs : ∀ G : Hp, (∀ p ∈ cs, G p.2 = some (.tbl #[])) → SqL K G a (ns.map V.int) → sp [.ref a] G (fun v _ => v = .bl true) fun _ _ _ => False) :
    codeAny (model P w) callerA (.call (.ref fa) ⟨[.ref a], []⟩) (fun r y => r = .ok (.ret (.bool true)) ∧ OldK z.heap y.heap ∧ y.os = z.os ∧ AllBare y.gens) z := by
  have tm : ∀ b ∈ cs.map (·.2), ∃ p ∈ cs, p.2 = b := fun b h => by
    obtain ⟨p, hp, e⟩ := List.mem_map.mp h
    exact ⟨p, hp, e⟩
  have nat : a ∉ cs.map (·.2) := fun h => by
    obtain ⟨p, hp, e⟩ := tm a h
    have q := t1 p hp
    rw [e, oa] at q
    cases q
  generalize hG : G0 K (cs.map (·.2)) a { cls := .type "list", data := .seq vs.toArray } (ns.map V.int) = G
  have some' : ∀ {b u}, G b = some u → (b ∈ cs.map (·.2) ∧ u = .tbl #[]) ∨ (b ∉ cs.map (·.2) ∧ b = a ∧ K.lookup a = none ∧ u = .frz { cls := .type "list", data := .seq vs.toArray } (.lst (ns.map V.int))) := fun {b u} h => g0_some (hG ▸ h)
  have tabG : ∀ p ∈ cs, G p.2 = some (.tbl #[]) := fun p hp => hG ▸ g0_tab (List.mem_map.mpr ⟨p, hp, rfl⟩)
  have rv := vals_ints ia
  have sq : SqL K G a (ns.map V.int) := by
    cases e : K.lookup a with
    | none => exact .inl (.inr ⟨_, hG ▸ g0_scr nat e⟩)
    | some o =>
      have q := KI a o e
      rw [oa] at q
      cases q
      exact .inr ⟨_, vs.toArray, _, e, rfl, rfl, rfl, by rw [List.size_toArray, ia.length]; exact la, by simpa using rv⟩
  have ok : HOk P w G z.heap := fun b u e => by
    rcases some' e with ⟨m, rfl⟩ | ⟨_, rfl, _, rfl⟩
    · obtain ⟨p, hp, rfl⟩ := tm b m
      exact t1 p hp
    · exact ⟨oa, by rw [List.length_map]; exact la, vs, _, rv, oa⟩
  -- what is neither a list nor an empty table isn't tracked
  have off : ∀ {b : Addr} {o : Obj}, z.heap.get? b = some o → (∀ us n, o.data ≠ .seq us n) → o.data ≠ .fields #[] → G b = none := fun {b o} e d1 d2 => by
    cases q : G b with
    | none => rfl
    | some u =>
      rcases some' q with ⟨m, _⟩ | ⟨_, rfl, _, _⟩
      · obtain ⟨p, hp, rfl⟩ := tm b m
        rw [t1 p hp] at e
        cases e
        exact (d2 rfl).elim
      · rw [oa] at e
        cases e
        exact (d1 _ _ rfl).elim
  have stay : ∀ {b : Addr} {o : Obj}, z.heap.get? b = some o → (∀ us n, o.data ≠ .seq us n) → o.data ≠ .fields #[] → (hidT z.heap G).get? b = some o := fun e d1 d2 => hidT_get e (off e d1 d2)
  have nsB : ∀ {b : Addr} {m : Str → Option Value}, z.heap.Ns b m → (hidT z.heap G).Ns b m := fun ⟨o, es, ep, e, d, r⟩ => ⟨o, es, ep, stay e (fun us n y => by rw [d] at y; cases y) (fun y => by rw [d] at y; cases y), d, r⟩
  have inB : K.In (hidT z.heap G) := fun b o e => hidT_get (KI b o e) (by
    cases q : G b with
    | none => rfl
    | some u =>
      rcases some' q with ⟨m, _⟩ | ⟨_, rfl, n, _⟩
      · obtain ⟨p, hp, rfl⟩ := tm b m
        rw [t2 p hp] at e
        cases e
      · rw [n] at e
        cases e)
  have tbB : ∀ p ∈ cs, TabB (hidT z.heap G) mg p.1 p.2 := fun p hp => by
    refine ⟨?_, ?_, fun y => ?_⟩
    · obtain ⟨o, us, file, tf, flags, tg, inF, text, tt, e1, r1, r2, r3, rest⟩ := t3 p hp
      refine ⟨o, us, file, tf, flags, tg, inF, text, tt, stay e1 (fun us n y => by rw [r2] at y; cases y) (fun y => ?_), r1, r2, r3, rest⟩
      rw [r2] at y
      cases y
      simp at r3
    · obtain ⟨bm, om, b1, b2, b3, b4, b5, b6⟩ := t4
      refine ⟨bm, om, b1, b2, fun y => ?_, fun y => ?_, stay b3 (fun us n y => by rw [b6] at y; cases y) (fun y => by rw [b6] at y; cases y), b4, b5, b6⟩
      · obtain ⟨o, es, ep, e, d, _⟩ := n1
        rw [y, e] at b3
        cases b3
        rw [d] at b6
        cases b6
      · rw [y, t1 p hp] at b3
        cases b3
        cases b6
    · obtain ⟨o, es, ep, e, d, _⟩ := n1
      rw [y, t1 p hp] at e
      cases e
      cases d
  have md : L2.Mod K mg (hidT z.heap G) := ⟨inB, nsB n1, ⟨mb, nsB n2, n3⟩, let ⟨mc, c1, c2⟩ := n4; ⟨mc, nsB c1, c2⟩⟩
  have en : Env0 P w K mg (hidT z.heap G) callerA [] z G := ⟨rfl, md, fun _ _ e => of_hidT e, Nat.le_of_eq (hidT_size _ _), trivial, (fun b h => absurd (show b ∈ ([] : List Addr) from h) List.not_mem_nil), ok, .of_eq n5⟩
  refine codeAny_mono ((F _ inB (nsB n1) tbB).go callerA [] z G ⟨[.ref a], []⟩ [.ref a] [.ref a] _ _ rfl rm en (bd z (.ref a)) (.cons rfl .nil) (hs G tabG sq)) fun r y h => ?_
  match r, h with
  | .error _, h => exact h.elim
  | .ok .next, h => exact False.elim h
  | .ok .brk, h => exact False.elim h
  | .ok .cont, h => exact False.elim h
  | .ok (.ret u), h =>
    obtain ⟨v, G', e1, e2, un, ok', r', q⟩ := h
    obtain rfl : v = .bl true := q
    obtain rfl : u = Value.bool true := r'
    -- an object that stood before: a table may have grown, all else is as it was
    have old : ∀ b o, z.heap.get? b = some o → (b ∈ cs.map (·.2) ∧ ∃ more : Array Value, y.heap.get? b = some { cls := .none, data := .fields more }) ∨ y.heap.get? b = some o := fun b o e => by
      cases q : G b with
      | none => exact .inr (un.keep b o e q (fun h => absurd (show b ∈ ([] : List Addr) from h) List.not_mem_nil) List.not_mem_nil)
      | some u =>
        rcases some' q with ⟨m, rfl⟩ | ⟨_, rfl, _, rfl⟩
        · obtain ⟨more, g⟩ := un.tbls b #[] q
          exact .inl ⟨m, _, ok' b _ g⟩
        · rw [oa] at e
          cases e
          exact .inr (ok' b _ (un.frzs b _ _ q)).1
    refine ⟨rfl, ⟨fun b o e => ?_, fun b o e => ?_⟩, e1, e2⟩
    · rcases old b o e with ⟨m, more, g⟩ | g
      · obtain ⟨p, hp, rfl⟩ := tm b m
        rw [t1 p hp] at e
        cases e
        exact .inr (.inl ⟨((t3 p hp).tab (t1 p hp)).isCodeTable, rfl, #[], more, rfl, by rw [Array.empty_append]; exact g⟩)
      · exact .inl g
    · rcases old b o e with ⟨_, more, g⟩ | g
      · exact ⟨_, g⟩
      · exact ⟨o, g⟩
theorem walkTG {l : PySem.W.OpenLaw} {n k : Nat} {q : Program} {loose : List Str} {XP : (Str → Option Value) → Heap → Prop} {YP : World → Heap → Prop} {d : DefRec} {x : Str} (hn : l.most = some n) (hn2 : n ≤ sizeLine) (hdf : d.params.defaults = []) (rm : Room k callerA)
    (F : ∀ (w : World) (mg : Str → Option Value) (fa : Addr) (h : Heap), YP w h → h.Ns mainGlobals mg → mg d.name = some (.ref fa) → ∃ (K : PySem.W.Frag) (fd : FuncData) (cs : List (Addr × Addr)) (sp : Sp), K.In h ∧
      (∀ p ∈ cs, h.get? p.2 = some { cls := .none, data := .fields #[] }) ∧ (∀ p ∈ cs, K.lookup p.2 = none) ∧ (∀ p ∈ cs, PySem.W.CodeHd h p.1 p.2) ∧ (∀ (s : Shared) (u : Value), BindsTo s fd ⟨[u], []⟩ [(x, u)]) ∧
      (∀ (H : Hp) (a : Addr) (ns : List Int), ns.length ≤ n → (∀ p ∈ cs, H p.2 = some (.tbl #[])) → SqL K H a (ns.map V.int) → sp [.ref a] H (fun v _ => v = .bl true) fun _ _ _ => False) ∧
      ∀ base : Heap, K.In base → base.Ns mainGlobals mg → (∀ p ∈ cs, TabB base mg p.1 p.2) → FnG l.prog w K mg base k fa fd [x] sp) : PySem.W.WalkO q loose XP YP l.row.toRowW d [] (fun f vs => PySem.call f vs) := by
  refine Att.attach_call hn hdf fun w s₀ s₁ mg mb fa o pm cd doc a vs ns G Y ho hd hcd hmg hobj hints hlen hg => ?_
  obtain ⟨K, fd, cs, sp, KX, t1, t2, t3, t4, t5, t6⟩ := F w mg fa _ Y G.T.g hmg
  exact law_tabs KX G.T.g G.T.b G.T.builtins G.T.nolimit hg t1 t2 t3 G.T.bmain hobj hints (Nat.le_trans hlen hn2) rm t6 t4 (fun H hH hS => t5 H a ns hlen hH hS)
end Bf
namespace Bf
open PySem PySem.Spec PyProof.Rows L2
theorem walkG {l : PySem.W.OpenLaw} {n k : Nat} {q : Program} {loose : List Str} {XP : (Str → Option Value) → Heap → Prop} {YP : World → Heap → Prop} {d : DefRec} {K : Params → PySem.W.Frag} {sp : PySem.W.Frag → Sp} {x : Str}
    (hn : l.most = some n) (hn2 : n ≤ sizeLine) (hdf : d.params.defaults = []) (rm : Room k callerA) (hY : ∀ (w : World) (h : Heap), YP w h → (K w.params).In h)
    (F : ∀ (w : World) (mg : Str → Option Value) (fa : Addr) (h : Heap), (K w.params).In h → h.Ns mainGlobals mg → mg d.name = some (.ref fa) →
      ∃ fd : FuncData, (∀ (s : Shared) (u : Value), BindsTo s fd ⟨[u], []⟩ [(x, u)]) ∧ ∀ base : Heap, (K w.params).In base → base.Ns mainGlobals mg → FnG l.prog w (K w.params) mg base k fa fd [x] (sp (K w.params)))
    (hsp : ∀ (K : PySem.W.Frag) (H : Hp) (a : Addr) (ns : List Int), ns.length ≤ n → SqL K H a (ns.map V.int) → sp K [.ref a] H (fun v _ => v = .bl true) fun _ _ _ => False) :
    PySem.W.WalkO q loose XP YP l.row.toRowW d [] (fun f vs => PySem.call f vs) := by
  refine Att.attach_call hn hdf fun w s₀ s₁ mg mb fa o pm cd doc a vs ns G Y ho hd hcd hmg hobj hints hlen hg => ?_
  obtain ⟨fd, hb, hF⟩ := F w mg fa _ (hY w _ Y) G.T.g hmg
  exact law_tabs (cs := []) (hY w _ Y) G.T.g G.T.b G.T.builtins G.T.nolimit hg (fun _ h => absurd h List.not_mem_nil) (fun _ h => absurd h List.not_mem_nil) (fun _ h => absurd h List.not_mem_nil) G.T.bmain hobj hints (Nat.le_trans hlen hn2) rm (fun base b1 b2 _ => hF base b1 b2) hb fun H _ hS => hsp (K w.params) H a ns hlen hS
end Bf
namespace Bf
open PySem PySem.Spec PyProof.Rows L2
def topS (i : Nat) : Stmt := PySem.Challenge.pw_beatferry_k01_bits_and_back.main.body.getD i (.Pass ⟨0, 0, 0, 0⟩)
abbrev sPot : Stmt := topS 5
abbrev sTake : Stmt := topS 6
abbrev sOf : Stmt := topS 7
abbrev sFar : Stmt := topS 8
abbrev sSize : Stmt := topS 9
abbrev sPerson : Stmt := topS 10
theorem scPot : FnScope ["_law_script", "_law_k", "_law_cell", "_law_own"] ["_law_script", "_law_k"] (defScope sPot) := ⟨rfl, rfl, rfl, by decide +kernel, rfl, by decide +kernel, by decide +kernel⟩
theorem scTake : FnScope ["_law_pot_here", "_law_size_here", "_law_digit", "_law_turn", "_law_prime", "_law_mixed"] ["_law_pot_here", "_law_size_here"] (defScope sTake) := ⟨rfl, rfl, rfl, by decide +kernel, rfl, by decide +kernel, by decide +kernel⟩
theorem scOf : FnScope ["_law_pot_here", "_law_menu"] ["_law_pot_here", "_law_menu"] (defScope sOf) := ⟨rfl, rfl, rfl, by decide +kernel, rfl, by decide +kernel, by decide +kernel⟩
theorem scFar : FnScope ["_law_pot_here", "_law_size_here"] ["_law_pot_here", "_law_size_here"] (defScope sFar) := ⟨rfl, rfl, rfl, by decide +kernel, rfl, by decide +kernel, by decide +kernel⟩
theorem scSize : FnScope ["_law_pot_here"] ["_law_pot_here"] (defScope sSize) := ⟨rfl, rfl, rfl, by decide +kernel, rfl, by decide +kernel, by decide +kernel⟩
theorem scPerson : FnScope ["_law_pot_here", "_law_size_here", "_law_full", "_law_single", "_law_few"] ["_law_pot_here", "_law_size_here"] (defScope sPerson) := ⟨rfl, rfl, rfl, by decide +kernel, rfl, by decide +kernel, by decide +kernel⟩

/-! ### heaps -/
def Keeps (a : Addr) (H H' : Hp) : Prop := ∀ b o, b ≠ a → H b = some o → H' b = some o
theorem Keeps.refl (a : Addr) (H : Hp) : Keeps a H H := fun _ _ _ h => h
theorem Keeps.trans {a : Addr} {H H1 H2 : Hp} (x : Keeps a H H1) (y : Keeps a H1 H2) : Keeps a H H2 := fun b o n h => y b o n (x b o n h)
theorem Keeps.new {a p : Addr} {H H1 : Hp} {o : HO} (x : Keeps a H H1) (h : H1 p = none) : Keeps a H (upd H1 p o) := fun b u n e => by
  have e1 := x b u n e
  rw [upd_ne (ne_of_none e1 h)]
  exact e1
theorem Keeps.at {a : Addr} {H H1 : Hp} {o : HO} (x : Keeps a H H1) : Keeps a H (upd H1 a o) := fun b u n e => by
  rw [upd_ne n]
  exact x b u n e
theorem Keeps.of_same {a : Addr} {H H1 : Hp} (x : Same H H1) : Keeps a H H1 := fun b u _ e => x b u e
theorem same_new {H H1 : Hp} {p : Addr} {o : HO} (x : Same H H1) (h : H1 p = none) : Same H (upd H1 p o) := fun b u e => by
  have e1 := x b u e
  rw [upd_ne (ne_of_none e1 h)]
  exact e1
/-- an expression that gives v, the heap as it was -/
def Gives (t : TE) (σ : L2.St) (H : Hp) (v : V) : Prop := ∀ Q : VK, Q v H → t σ H Q
theorem rd_ifI {tt : TT} {ta tb : TE} {σ : L2.St} {H : Hp} {Q : VK} (b : Bool) (P : Int → Prop) (h0 : ∀ Q' : Bool → Hp → Prop, Q' b H → tt σ H Q') (h1 : b = true → ∃ c : Int, P c ∧ Gives ta σ H (.int c)) (h2 : b = false → ∃ c : Int, P c ∧ Gives tb σ H (.int c))
    (h : ∀ c : Int, P c → Q (.int c) H) : tIf tt ta tb σ H Q := by
  refine h0 _ ?_
  cases b with
  | true => obtain ⟨c, hp, hc⟩ := h1 rfl; exact iteT (hc _ (h c hp))
  | false => obtain ⟨c, hp, hc⟩ := h2 rfl; exact iteF (hc _ (h c hp))
/-- the pot: three numbers at a; n counts what was drawn -/
def Pot (H : Hp) (a : Addr) (n : Nat) : Prop := ∃ x y z : Int, H a = some (.lst [.int x, .int y, .int z]) ∧ 0 ≤ x ∧ 0 ≤ y ∧ y < 2305843009213693952 ∧ 0 ≤ z ∧ z ≤ n
theorem Pot.up {H : Hp} {a : Addr} {n m : Nat} (h : Pot H a n) (l : n ≤ m) : Pot H a m := let ⟨x, y, z, h1, h2, h3, h4, h5, h6⟩ := h; ⟨x, y, z, h1, h2, h3, h4, h5, by omega⟩
theorem Pot.new {H : Hp} {a p : Addr} {n : Nat} {o : HO} (h : Pot H a n) (hp : H p = none) : Pot (upd H p o) a n := let ⟨x, y, z, h1, h2⟩ := h; ⟨x, y, z, by rw [upd_ne (ne_of_none h1 hp)]; exact h1, h2⟩
theorem Pot.same {H H' : Hp} {a : Addr} {n : Nat} (h : Pot H a n) (s : Same H H') : Pot H' a n := let ⟨x, y, z, h1, h2⟩ := h; ⟨x, y, z, s _ _ h1, h2⟩

section
variable {P : Program} {w : World} {K : PySem.W.Frag} {mg : Str → Option Value} {base : Heap} {f fT fO fF : Addr} {fd fdT fdO fdF : FuncData} {k : Nat}
/-! ### pot -/
def spPot (K : PySem.W.Frag) : Sp := fun vs H Q _ => ∃ (a : Addr) (ns : List Int) (k : Nat), vs = [.ref a, .int k] ∧ SqL K H a (ns.map V.int) ∧ ns.length ≤ 63 ∧ k ≤ 100 ∧
  ∀ H' p, Same H H' → H p = none → Pot H' p 0 → Q (.ref p) H'
theorem ok_pot (F : Fun K "_law_pot" "_law_pot" sPot f fd) (ml : mg "len" = none) (ma : mg "abs" = none) : FnOk P w K mg base CX0 (k + 1) f fd ["_law_script", "_law_k"] (spPot K) := by
  refine F.ok scPot (fun vs H Q E h => ?_) (fun cdv A outer s H vs Q E hr h => ?_)
  · obtain ⟨a, ns, k, rfl, _⟩ := h
    rfl
  · obtain ⟨a, ns, k, rfl, hS, hl, hk, q⟩ := h
    refine ⟨_, pss_cons (ps_set (i := 2) scPot.nd rfl (.inl rfl) (pe_ifExp (pt_cmpR op_lt (pv 1) (pe_callB call_len_seq (by rfl) ml PySem.boot_len (pa_cons (pv 0) pa_nil)) (nomark _)) (pe_ix ix_list (pv 0) (pv 1) (fun _ _ => rfl)) pe_int))
      (pss_cons (ps_set (i := 3) scPot.nd rfl (.inl rfl) (pe_ifExp (pt_cmpR op_ge (pe_callB call_abs (by rfl) ma (by decide +kernel) (pa_cons (pv 2) pa_nil)) (pe_op op_pow pe_int pe_int) (nomark _)) (pe_callB call_abs (by rfl) ma (by decide +kernel) (pa_cons (pv 2) pa_nil)) pe_int))
      (pss_one (ps_ret (pe_lst (pa_cons (pv 3) (pa_cons (pe_op op_mod (pe_op op_mul (pe_op op_add (pe_op op_add (pe_op op_mod (pv 2) pe_int) (pe_op op_mul (pe_op op_mul pe_int (pv 1)) (pv 1))) pe_int) pe_int) pe_int) (pa_cons pe_int pa_nil))))))), ?_⟩
    have fin : ∀ (x y : Int), 0 ≤ x → 0 ≤ y → y < 2305843009213693952 → ∀ p, H p = none → Q (.ref p) (upd H p (.lst [.int x, .int y, .int 0])) := fun x y h1 h2 h3 p np =>
      q _ p (same_new (Same.refl H) np) np ⟨x, y, 0, upd_same, h1, h2, h3, by omega, by omega⟩
    refine rd_ifI (decide ((k : Int) < ((ns.map V.int).length : Int))) (fun _ => True) ?_ ?_ ?_ ?_
    · exact fun Q' h => ⟨.int k, rfl, .ref a, rfl, a, _, rfl, .inl hS, _, _, rfl, rfl, _, rfl, h⟩
    · intro e
      have z : (k : Int) < ((ns.map V.int).length : Int) := of_decide_eq_true e
      rw [List.length_map] at z
      have z2 : k < ns.length := by omega
      exact ⟨ns[k], trivial, fun Q' h => ⟨.ref a, rfl, .int k, rfl, a, _, _, _, rfl, rfl, hS, atI_nat (j := k) (by rw [List.getElem?_map, List.getElem?_eq_getElem z2]; rfl), h⟩⟩
    · exact fun _ => ⟨0, trivial, fun Q' h => h⟩
    intro c _
    have habs : (0 : Int) ≤ if c < 0 then -c else c := by split <;> omega
    dsimp only [gName, tSeq, tAsg]
    refine rd_ifI (decide ((10 : Int) ^ (18 : Int).toNat ≤ (if c < 0 then -c else c))) (fun n => 0 ≤ n) ?_ ?_ ?_ ?_
    · exact fun Q' h => ⟨.int c, rfl, c, rfl, _, _, rfl, rfl, ⟨by decide, by decide, by decide⟩, _, _, rfl, rfl, _, rfl, h⟩
    · exact fun _ => ⟨_, habs, fun Q' h => ⟨.int c, rfl, c, rfl, h⟩⟩
    · exact fun _ => ⟨0, Int.le_refl 0, fun Q' h => h⟩
    intro own hown
    refine ⟨.int own, rfl, .int c, rfl, _, _, rfl, rfl, (show (0 : Int) < 2305843009213693951 by decide), .int k, rfl, _, _, rfl, rfl, .inl ⟨by decide, by decide⟩, .int k, rfl, _, _, rfl, rfl, .inr ⟨by omega, by omega⟩, _, _, rfl, rfl, _, _, rfl, rfl, _, _, rfl, rfl,
      .inr ⟨by decide, by decide⟩, _, _, rfl, rfl, (show (0 : Int) < 2305843009213693921 by decide), (by show 3 ≤ sizeLine; decide), fun p np => ?_⟩
    exact fin own _ hown (Int.emod_nonneg _ (by decide)) (Int.lt_trans (Int.emod_lt_of_pos _ (by decide)) (by decide)) p np
/-! ### take -/
def spTake : Sp := fun vs H Q _ => ∃ (a : Addr) (n m : Nat), vs = [.ref a, .int n] ∧ 0 < n ∧ n < 1073741824 ∧ Pot H a m ∧ m < 100000 ∧ ∀ (r : Nat) H', r < n → Keeps a H H' → Pot H' a (m + 1) → Q (.int r) H'
theorem primes4 (n : Int) (h0 : 0 ≤ n) (h : n < 4) : ∃ v : Int, atI [V.int 2305843009213693951, .int 999999999989, .int 1000000000039, .int 67280421310721] n = some (.int v) ∧ 0 < v := by
  obtain ⟨m, rfl⟩ := Int.eq_ofNat_of_zero_le h0
  match m, h with
  | 0, _ => exact ⟨_, rfl, by decide⟩
  | 1, _ => exact ⟨_, rfl, by decide⟩
  | 2, _ => exact ⟨_, rfl, by decide⟩
  | 3, _ => exact ⟨_, rfl, by decide⟩
theorem nat_of {i : Int} {n : Nat} (h0 : 0 ≤ i) (h : i < n) : ∃ r : Nat, i = (r : Int) ∧ r < n := ⟨i.toNat, by omega, by omega⟩
theorem ok_take (F : Fun K "_law_take" "_law_take" sTake f fd) : FnOk P w K mg base CX0 (k + 1) f fd ["_law_pot_here", "_law_size_here"] spTake := by
  refine F.ok scTake (fun vs H Q E h => ?_) (fun cdv A outer s H vs Q E hr h => ?_)
  · obtain ⟨a, n, m, rfl, _⟩ := h
    rfl
  · obtain ⟨a, n, m, rfl, hn, hn2, ⟨x, y, z, hH, hx, hy, hy2, hz, hz2⟩, hm, q⟩ := h
    refine ⟨_, pss_cons (ps_if (pt_cmpR op_gt (pe_ix ix_list (pv 0) pe_int (fun _ _ => rfl)) pe_int (nomark _))
        (pss_cons (ps_set (i := 2) scTake.nd rfl (.inl rfl) (pe_op op_mod (pe_ix ix_list (pv 0) pe_int (fun _ _ => rfl)) (pv 1)))
        (pss_cons (ps_asg (pe_op op_fdiv (pe_ix ix_list (pv 0) pe_int (fun _ _ => rfl)) (pv 1)) (pg_sub (pv 0) pe_int set_list))
        (pss_one (ps_ret (pv 2))))) pss_nil)
      (pss_cons (ps_set (i := 3) scTake.nd rfl (.inl rfl) (pe_op op_add (pe_ix ix_list (pv 0) pe_int (fun _ _ => rfl)) pe_int))
      (pss_cons (ps_asg (pv 3) (pg_sub (pv 0) pe_int set_list))
      (pss_cons (ps_set (i := 4) scTake.nd rfl (.inl rfl) (pe_ix ix_list (pe_lst (pa_cons pe_int (pa_cons pe_int (pa_cons pe_int (pa_cons pe_int pa_nil))))) (pe_op op_mod (pv 3) pe_int) (fun _ _ => rfl)))
      (pss_cons (ps_set (i := 5) scTake.nd rfl (.inl rfl) (pe_op op_mod (pe_op op_pow (pe_op op_add (pe_op op_add (pe_ix ix_list (pv 0) pe_int (fun _ _ => rfl)) (pe_op op_mul (pe_op op_mul pe_int (pv 3)) (pv 3))) (pe_op op_mul pe_int (pv 3))) pe_int) (pv 4)))
      (pss_one (ps_ret (pe_op op_mod (pe_op op_add (pe_op op_fdiv (pv 5) pe_int) (pe_op op_mul (pe_op op_fdiv (pv 5) pe_int) pe_int)) (pv 1)))))))), ?_⟩
    have hL : SqL K H a [.int x, .int y, .int z] := .inl (.inl hH)
    have hnI : (0 : Int) < (n : Int) := by omega
    have hnI2 : (n : Int) < 1073741824 := by omega
    refine ⟨.ref a, rfl, a, _, _, .int x, rfl, rfl, hL, rfl, _, _, rfl, rfl, _, rfl, ite2 (fun e => ?_) (fun e => ?_)⟩
    · obtain ⟨r, er, hr2⟩ := nat_of (n := n) (Int.emod_nonneg x (Int.ne_of_gt hnI)) (Int.emod_lt_of_pos x hnI)
      refine ⟨.ref a, rfl, a, _, _, .int x, rfl, rfl, hL, rfl, .int n, rfl, _, _, rfl, rfl, hnI, ?_⟩
      refine ⟨.ref a, rfl, a, _, _, .int x, rfl, rfl, hL, rfl, .int n, rfl, _, _, rfl, rfl, ⟨hnI, hnI2⟩, .ref a, rfl, a, _, _, 0, rfl, rfl, hH, rfl, .int (x % n), rfl, ?_⟩
      rw [er]
      exact q r _ hr2 (Keeps.refl a H).at ⟨x / n, y, z, upd_same, Int.ediv_nonneg hx (Int.le_of_lt hnI), hy, hy2, hz, by omega⟩
    · refine ⟨.ref a, rfl, a, _, _, .int z, rfl, rfl, hL, rfl, _, _, rfl, rfl, .int (z + 1), rfl, .ref a, rfl, a, _, _, 2, rfl, rfl, hH, rfl, (by show 4 ≤ sizeLine; decide), fun p np => ?_⟩
      obtain ⟨v, hv, hv0⟩ := primes4 ((z + 1) % 4) (Int.emod_nonneg _ (by decide)) (Int.emod_lt_of_pos _ (by decide))
      have hap : a ≠ p := fun e => by
        rw [← e, upd_same] at np
        cases np
      have hL2 : SqL K (upd (upd H a (.lst [.int x, .int y, .int (z + 1)])) p (.lst [V.int 2305843009213693951, .int 999999999989, .int 1000000000039, .int 67280421310721])) a [.int x, .int y, .int (z + 1)] := .inl (.inl (by rw [upd_ne hap, upd_same]))
      refine ⟨.int (z + 1), rfl, _, _, rfl, rfl, (show (0 : Int) < 4 by decide), p, _, _, .int v, rfl, rfl, .inl (.inl upd_same), hv, ?_⟩
      have hb : (y + 7919 * (z + 1) * (z + 1) + 65537 * (z + 1)).natAbs < 2 ^ 64 := by
        have z1 : 7919 * (z + 1) ≤ 7919 * 100001 := by omega
        have z2 : 7919 * (z + 1) * (z + 1) ≤ 7919 * 100001 * 100001 := Int.mul_le_mul z1 (by omega) (by omega) (by decide)
        have z3 : 0 ≤ 7919 * (z + 1) * (z + 1) := Int.mul_nonneg (by omega) (by omega)
        omega
      refine ⟨.ref a, rfl, a, _, _, .int y, rfl, rfl, hL2, rfl, .int (z + 1), rfl, _, _, rfl, rfl, .inl ⟨by decide, by decide⟩, .int (z + 1), rfl, _, _, rfl, rfl, .inr ⟨by omega, by omega⟩, _, _, rfl, rfl, .int (z + 1), rfl, _, _, rfl, rfl, .inl ⟨by decide, by decide⟩, _, _, rfl, rfl,
        _, _, rfl, rfl, ⟨by decide, by decide, hb⟩, .int v, rfl, _, _, rfl, rfl, hv0, ?_⟩
      refine ⟨_, rfl, _, _, rfl, rfl, ⟨by decide, by decide⟩, _, rfl, _, _, rfl, rfl, ⟨by decide, by decide⟩, _, _, rfl, rfl, .inr ⟨by decide, by decide⟩, _, _, rfl, rfl, .int n, rfl, _, _, rfl, rfl, hnI, ?_⟩
      generalize (_ : Int) / 4099 + _ = g
      obtain ⟨r, er, hr2⟩ := nat_of (n := n) (Int.emod_nonneg g (Int.ne_of_gt hnI)) (Int.emod_lt_of_pos g hnI)
      show Q (.int (g % n)) _
      rw [er]
      refine q r _ hr2 ((Keeps.refl a H).at.new np) ⟨x, y, z + 1, by rw [upd_ne hap, upd_same]; rfl, hx, hy, hy2, by omega, by omega⟩
/-! ### numbers that are not negative -/
theorem op_orN {X : Cx} : OpR X (binaryOp .BitOr) (fun x y H Q => ∃ n m : Nat, x = .int (n : Int) ∧ y = .int (m : Int) ∧ Q (.int ((n ||| m : Nat) : Int)) H) := by
  intro pins s σ H x y v u Q I rx ry h
  obtain ⟨n, m, rfl, rfl, q⟩ := h
  refine op_or pins s σ H _ _ v u Q I rx ry ⟨(n : Int), (m : Int), rfl, rfl, ?_⟩
  show Q (.int (Builtin.bitOr (n : Int) (m : Int))) H
  rw [bitOr_nn (Int.natCast_nonneg n) (Int.natCast_nonneg m)]
  exact q
theorem op_bit {X : Cx} : OpR X (binaryOp .LShift) (fun x y H Q => ∃ k : Nat, x = .int 1 ∧ y = .int (k : Int) ∧ k ≤ 134217727 ∧ Q (.int ((2 ^ k : Nat) : Int)) H) := by
  intro pins s σ H x y v u Q I rx ry h
  obtain ⟨k, rfl, rfl, hk, q⟩ := h
  refine op_oneShl pins s σ H _ _ v u Q I rx ry ⟨k, rfl, rfl, hk, ?_⟩
  rw [Int.natCast_pow] at q
  exact q
/-! ### of -/
def spOf (K : PySem.W.Frag) : Sp := fun vs H Q _ => ∃ (a b : Addr) (xs : List V) (m : Nat), vs = [.ref a, .ref b] ∧ (∀ H', Keeps a H H' → SqL K H' b xs) ∧ 0 < xs.length ∧ xs.length < 1073741824 ∧ Pot H a m ∧ m < 100000 ∧ ∀ v H', v ∈ xs → Keeps a H H' → Pot H' a (m + 1) → Q v H'
theorem ok_of (F : Fun K "_law_of" "_law_of" sOf f fd) (GT : FnOk P w K mg base CX0 1 fT fdT ["_law_pot_here", "_law_size_here"] spTake) (kT : PySem.W.keepIn K (.ref fT) = true) (bT : Binds K fdT ["_law_pot_here", "_law_size_here"] []) (gT : mg "_law_take" = some (.ref fT)) (ml : mg "len" = none) :
    FnOk P w K mg base CX0 2 f fd ["_law_pot_here", "_law_menu"] (spOf K) := by
  refine F.ok scOf (fun vs H Q E h => ?_) (fun cdv A outer s H vs Q E hr h => ?_)
  · obtain ⟨a, b, xs, m, rfl, _⟩ := h
    rfl
  · obtain ⟨a, b, xs, m, rfl, hS, h0, h1, hp, hm, q⟩ := h
    refine ⟨_, pss_one (ps_ret (pe_ix ix_list (pv 1) (pe_call GT hr (by rfl) gT kT bT .nil pass0 (pa_cons (pv 0) (pa_cons (pe_callB call_len_seq (by rfl) ml PySem.boot_len (pa_cons (pv 1) pa_nil)) pa_nil))) (fun _ _ => rfl))), ?_⟩
    refine ⟨.ref b, rfl, .ref a, rfl, .ref b, rfl, b, xs, rfl, .inl (hS H (Keeps.refl a H)), a, xs.length, m, rfl, h0, h1, hp, hm, fun r H' hr1 kp hp' => ?_⟩
    refine ⟨b, xs, r, xs[r], rfl, rfl, hS H' kp, atI_nat (List.getElem?_eq_getElem hr1), ?_⟩
    exact q _ H' (List.getElem_mem hr1) kp hp'
/-! ### far -/
def spFar : Sp := fun vs H Q _ => ∃ (a : Addr) (n m : Nat), vs = [.ref a, .int n] ∧ 0 < n ∧ Pot H a m ∧ m < 90000 ∧ ∀ (r : Nat) H', r < n → Keeps a H H' → Pot H' a (m + 2) → Q (.int r) H'
theorem ok_far (F : Fun K "_law_far" "_law_far" sFar f fd) (GT : FnOk P w K mg base CX0 1 fT fdT ["_law_pot_here", "_law_size_here"] spTake) (kT : PySem.W.keepIn K (.ref fT) = true) (bT : Binds K fdT ["_law_pot_here", "_law_size_here"] []) (gT : mg "_law_take" = some (.ref fT)) :
    FnOk P w K mg base CX0 2 f fd ["_law_pot_here", "_law_size_here"] spFar := by
  refine F.ok scFar (fun vs H Q E h => ?_) (fun cdv A outer s H vs Q E hr h => ?_)
  · obtain ⟨a, n, m, rfl, _⟩ := h
    rfl
  · obtain ⟨a, n, m, rfl, hn, hp, hm, q⟩ := h
    refine ⟨_, pss_one (ps_ret (pe_op op_mod (pe_op op_mul (pe_op op_add (pe_op op_mul (pe_call GT hr (by rfl) gT kT bT .nil pass0 (pa_cons (pv 0) (pa_cons (pe_op op_pow pe_int pe_int) pa_nil))) (pe_op op_pow pe_int pe_int))
      (pe_call GT hr (by rfl) gT kT bT .nil pass0 (pa_cons (pv 0) (pa_cons (pe_op op_pow pe_int pe_int) pa_nil)))) pe_int) (pv 1))), ?_⟩
    refine ⟨.ref a, rfl, _, _, rfl, rfl, ⟨by decide, by decide, by decide⟩, a, 1000000000, m, rfl, by decide, by decide, hp, by omega, fun r1 H1 l1 k1 p1 => ?_⟩
    refine ⟨_, _, rfl, rfl, ⟨by decide, by decide, by decide⟩, _, _, rfl, rfl, .inl ⟨by omega, by omega⟩, .ref a, rfl, _, _, rfl, rfl, ⟨by decide, by decide, by decide⟩, a, 1000000000, m + 1, rfl, by decide, by decide, p1, by omega, fun r2 H2 l2 k2 p2 => ?_⟩
    have hnI : (0 : Int) < (n : Int) := by omega
    refine ⟨_, _, rfl, rfl, _, _, rfl, rfl, .inr ⟨by decide, by decide⟩, .int n, rfl, _, _, rfl, rfl, hnI, ?_⟩
    obtain ⟨r, er, hr2⟩ := nat_of (n := n) (Int.emod_nonneg (((r1 : Int) * 10 ^ (9 : Int).toNat + r2) * 7) (Int.ne_of_gt hnI)) (Int.emod_lt_of_pos _ hnI)
    show Q (.int ((((r1 : Int) * 10 ^ (9 : Int).toNat + r2) * 7) % n)) _
    rw [er]
    exact q r H2 hr2 (k1.trans k2) p2
/-! ### size -/
def spSize : Sp := fun vs H Q _ => ∃ (a : Addr) (m : Nat), vs = [.ref a] ∧ Pot H a m ∧ m < 90000 ∧ ∀ (r : Nat) H', 1 ≤ r → r ≤ 60 → Keeps a H H' → Pot H' a (m + 2) → Q (.int r) H'
theorem ok_size (F : Fun K "_law_size" "_law_size" sSize f fd) (GT : FnOk P w K mg base CX0 1 fT fdT ["_law_pot_here", "_law_size_here"] spTake) (kT : PySem.W.keepIn K (.ref fT) = true) (bT : Binds K fdT ["_law_pot_here", "_law_size_here"] []) (gT : mg "_law_take" = some (.ref fT))
    (GO : FnOk P w K mg base CX0 2 fO fdO ["_law_pot_here", "_law_menu"] (spOf K)) (kO : PySem.W.keepIn K (.ref fO) = true) (bO : Binds K fdO ["_law_pot_here", "_law_menu"] []) (gO : mg "_law_of" = some (.ref fO)) : FnOk P w K mg base CX0 3 f fd ["_law_pot_here"] spSize := by
  refine F.ok scSize (fun vs H Q E h => ?_) (fun cdv A outer s H vs Q E hr h => ?_)
  · obtain ⟨a, m, rfl, _⟩ := h
    rfl
  · obtain ⟨a, m, rfl, hp, hm, q⟩ := h
    refine ⟨_, pss_one (ps_ret (pe_call GO hr (by rfl) gO kO bO .nil pass0 (pa_cons (pv 0) (pa_cons (pe_lst (pa_cons pe_int (pa_cons pe_int (pa_cons pe_int (pa_cons pe_int (pa_cons pe_int (pa_cons pe_int (pa_cons pe_int (pa_cons pe_int
      (pa_cons (pe_op op_add pe_int (pe_call GT (hr.mono (by decide)) (by rfl) gT kT bT .nil pass0 (pa_cons (pv 0) (pa_cons pe_int pa_nil)))) pa_nil)))))))))) pa_nil)))), ?_⟩
    refine ⟨.ref a, rfl, .ref a, rfl, a, 60, m, rfl, by decide, by decide, hp, by omega, fun r H1 l1 k1 p1 => ?_⟩
    refine ⟨_, _, rfl, rfl, (by show 9 ≤ sizeLine; decide), fun b nb => ?_⟩
    refine ⟨a, b, _, m + 1, rfl, fun H' kp => .inl (.inl (kp b _ (fun e => ?_) upd_same)), (by show 0 < 9; decide), (by show 9 < 1073741824; decide), p1.new nb, by omega, fun v H' hv kp p' => ?_⟩
    · obtain ⟨x, y, z, hH, _⟩ := p1
      rw [e, hH] at nb
      cases nb
    · have e : ∃ j : Nat, v = .int (j : Int) ∧ 1 ≤ j ∧ j ≤ 60 := by
        simp only [List.mem_cons, List.not_mem_nil, or_false] at hv
        rcases hv with rfl | rfl | rfl | rfl | rfl | rfl | rfl | rfl | rfl
        · exact ⟨1, rfl, by decide, by decide⟩
        · exact ⟨2, rfl, by decide, by decide⟩
        · exact ⟨3, rfl, by decide, by decide⟩
        · exact ⟨4, rfl, by decide, by decide⟩
        · exact ⟨5, rfl, by decide, by decide⟩
        · exact ⟨8, rfl, by decide, by decide⟩
        · exact ⟨59, rfl, by decide, by decide⟩
        · exact ⟨60, rfl, by decide, by decide⟩
        · exact ⟨1 + r, by rw [Int.natCast_add]; rfl, by omega, by omega⟩
      obtain ⟨j, rfl, h1, h2⟩ := e
      exact q j H' h1 h2 ((k1.new nb).trans kp) p'
/-! ### person -/
def spPerson : Sp := fun vs H Q _ => ∃ (a : Addr) (n m : Nat), vs = [.ref a, .int n] ∧ 1 ≤ n ∧ n ≤ 60 ∧ Pot H a m ∧ m < 80000 ∧ ∀ (r : Nat) H', r < 2 ^ n → Keeps a H H' → Pot H' a (m + 8) → Q (.int r) H'
theorem ok_person (F : Fun K "_law_person" "_law_person" sPerson f fd) (GT : FnOk P w K mg base CX0 1 fT fdT ["_law_pot_here", "_law_size_here"] spTake) (kT : PySem.W.keepIn K (.ref fT) = true) (bT : Binds K fdT ["_law_pot_here", "_law_size_here"] []) (gT : mg "_law_take" = some (.ref fT))
    (GO : FnOk P w K mg base CX0 2 fO fdO ["_law_pot_here", "_law_menu"] (spOf K)) (kO : PySem.W.keepIn K (.ref fO) = true) (bO : Binds K fdO ["_law_pot_here", "_law_menu"] []) (gO : mg "_law_of" = some (.ref fO))
    (GF : FnOk P w K mg base CX0 2 fF fdF ["_law_pot_here", "_law_size_here"] spFar) (kF : PySem.W.keepIn K (.ref fF) = true) (bF : Binds K fdF ["_law_pot_here", "_law_size_here"] []) (gF : mg "_law_far" = some (.ref fF)) : FnOk P w K mg base CX0 3 f fd ["_law_pot_here", "_law_size_here"] spPerson := by
  refine F.ok scPerson (fun vs H Q E h => ?_) (fun cdv A outer s H vs Q E hr h => ?_)
  · obtain ⟨a, n, m, rfl, _⟩ := h
    rfl
  · obtain ⟨a, n, m, rfl, hn, hn2, hp, hm, q⟩ := h
    refine ⟨_, pss_cons (ps_par (i := 2) (j := 3) (by rfl) scPerson.nd rfl rfl (by decide) rfl rfl (pa_cons (pe_op op_subN (pe_op op_bit pe_int (pv 1)) pe_int) (pa_cons (pe_op op_bit pe_int (pe_call GT (hr.mono (by decide)) (by rfl) gT kT bT .nil pass0 (pa_cons (pv 0) (pa_cons (pv 1) pa_nil)))) pa_nil)) (by rfl))
      (pss_cons (ps_set (i := 4) scPerson.nd rfl (.inl rfl) (pe_op op_orN (pe_op op_orN (pv 3) (pe_op op_bit pe_int (pe_call GT (hr.mono (by decide)) (by rfl) gT kT bT .nil pass0 (pa_cons (pv 0) (pa_cons (pv 1) pa_nil)))))
        (pe_op op_bit pe_int (pe_call GT (hr.mono (by decide)) (by rfl) gT kT bT .nil pass0 (pa_cons (pv 0) (pa_cons (pv 1) pa_nil))))))
      (pss_one (ps_ret (pe_call GO hr (by rfl) gO kO bO .nil pass0 (pa_cons (pv 0) (pa_cons (pe_lst (pa_cons pe_int (pa_cons (pv 2) (pa_cons (pv 3) (pa_cons (pe_op op_subN (pv 2) (pv 3)) (pa_cons (pv 4)
        (pa_cons (pe_call GF hr (by rfl) gF kF bF .nil pass0 (pa_cons (pv 0) (pa_cons (pe_op op_addN (pv 2) pe_int) pa_nil)))
        (pa_cons (pe_call GF hr (by rfl) gF kF bF .nil pass0 (pa_cons (pv 0) (pa_cons (pe_op op_addN (pv 2) pe_int) pa_nil))) pa_nil)))))))) pa_nil)))))), ?_⟩
    have h2n : 1 ≤ 2 ^ n := Nat.one_le_two_pow
    refine ⟨.int n, rfl, n, rfl, rfl, by omega, 2 ^ n, 1, rfl, rfl, h2n, .ref a, rfl, .int n, rfl, a, n, m, rfl, by omega, by omega, hp, by omega, fun t0 H1 l0 k1 p1 => ?_⟩
    refine ⟨t0, rfl, rfl, by omega, _, _, rfl, _, rfl, .ref a, rfl, .int n, rfl, a, n, m + 1, rfl, by omega, by omega, p1, by omega, fun t1 H2 l1 k2 p2 => ?_⟩
    refine ⟨t1, rfl, rfl, by omega, 2 ^ t0, 2 ^ t1, rfl, rfl, .ref a, rfl, .int n, rfl, a, n, m + 2, rfl, by omega, by omega, p2, by omega, fun t2 H3 l2 k3 p3 => ?_⟩
    refine ⟨t2, rfl, rfl, by omega, 2 ^ t0 ||| 2 ^ t1, 2 ^ t2, rfl, rfl, ?_⟩
    have b0 : 2 ^ t0 < 2 ^ n := Nat.pow_lt_pow_right (by decide) l0
    have b1 : 2 ^ t1 < 2 ^ n := Nat.pow_lt_pow_right (by decide) l1
    have b2 : 2 ^ t2 < 2 ^ n := Nat.pow_lt_pow_right (by decide) l2
    refine ⟨.ref a, rfl, _, rfl, _, rfl, _, rfl, _, rfl, 2 ^ n - 1, 2 ^ t0, rfl, rfl, by omega, _, rfl, ?_⟩
    refine ⟨.ref a, rfl, _, rfl, 2 ^ n - 1, 1, rfl, rfl, a, 2 ^ n - 1 + 1, m + 3, rfl, by omega, p3, by omega, fun r1 H4 l4 k4 p4 => ?_⟩
    refine ⟨.ref a, rfl, _, rfl, 2 ^ n - 1, 1, rfl, rfl, a, 2 ^ n - 1 + 1, m + 5, rfl, by omega, p4, by omega, fun r2 H5 l5 k5 p5 => ?_⟩
    refine ⟨(by show 7 ≤ sizeLine; decide), fun b nb => ?_⟩
    refine ⟨a, b, _, m + 7, rfl, fun H' kp => .inl (.inl (kp b _ (fun e => ?_) upd_same)), (by show 0 < 7; decide), (by show 7 < 1073741824; decide), p5.new nb, by omega, fun v H' hv kp p' => ?_⟩
    · obtain ⟨x, y, z, hH, _⟩ := p5
      rw [e, hH] at nb
      cases nb
    · have e : ∃ j : Nat, v = .int (j : Int) ∧ j < 2 ^ n := by
        simp only [List.mem_cons, List.not_mem_nil, or_false] at hv
        rcases hv with rfl | rfl | rfl | rfl | rfl | rfl | rfl
        · exact ⟨0, rfl, by omega⟩
        · exact ⟨_, rfl, by omega⟩
        · exact ⟨_, rfl, b0⟩
        · exact ⟨_, rfl, Nat.lt_of_le_of_lt (Nat.sub_le _ _) (Nat.sub_lt h2n (by decide))⟩
        · exact ⟨_, rfl, Nat.or_lt_two_pow (Nat.or_lt_two_pow b0 b1) b2⟩
        · exact ⟨r1, rfl, by omega⟩
        · exact ⟨r2, rfl, by omega⟩
      obtain ⟨j, rfl, hj⟩ := e
      exact q j H' hj ((((((k1.trans k2).trans k3).trans k4).trans k5).new nb).trans kp) p'
end
end Bf
namespace Bf
open PySem PySem.Spec PyProof.Rows L2
/-! ### bits of a number -/
def bl (n h : Nat) : List Nat := (List.range n).filter (fun k => h.testBit k)
theorem bl_succ (n h : Nat) : bl (n + 1) h = bl n h ++ (if h.testBit n = true then [n] else []) := by
  unfold bl
  rw [List.range_succ, List.filter_append]
  cases e : h.testBit n <;> simp [e]
theorem bl_ext {n h : Nat} (hh : h < 2 ^ n) : ∀ d, bl (n + d) h = bl n h
  | 0 => rfl
  | d + 1 => by
    have e : h.testBit (n + d) = false := Nat.testBit_lt_two_pow (Nat.lt_of_lt_of_le hh (Nat.pow_le_pow_right (by decide) (Nat.le_add_right n d)))
    rw [← Nat.add_assoc, bl_succ, bl_ext hh d, e]
    simp
theorem bl_eq {n m h : Nat} (hn : h < 2 ^ n) (hm : h < 2 ^ m) : bl n h = bl m h := by
  rcases Nat.le_total n m with l | l
  · obtain ⟨d, rfl⟩ := Nat.exists_eq_add_of_le l
    exact (bl_ext hn d).symm
  · obtain ⟨d, rfl⟩ := Nat.exists_eq_add_of_le l
    exact bl_ext hm d
theorem bl_len (n h : Nat) : (bl n h).length ≤ n := by
  have := List.length_filter_le (fun k => h.testBit k) (List.range n)
  rw [List.length_range] at this
  exact this
theorem bl_mem {n h i : Nat} (hn : h < 2 ^ n) : i ∈ bl n h ↔ h.testBit i = true := by
  unfold bl
  rw [List.mem_filter, List.mem_range]
  constructor
  · exact fun z => z.2
  · intro z
    refine ⟨Nat.lt_of_not_le fun l => ?_, z⟩
    rw [Nat.testBit_lt_two_pow (Nat.lt_of_lt_of_le hn (Nat.pow_le_pow_right (by decide) l))] at z
    cases z
theorem bl_lt {n h i : Nat} (hi : i ∈ bl n h) : i < n := List.mem_range.mp (List.mem_filter.mp hi).1
def fb (ks : List Nat) : Nat := ks.foldl (fun h k => h ||| 2 ^ k) 0
theorem fold_bit (i : Nat) : ∀ (ks : List Nat) (h : Nat), (ks.foldl (fun h k => h ||| 2 ^ k) h).testBit i = (h.testBit i || decide (i ∈ ks))
  | [], h => by simp
  | k :: ks, h => by
    rw [List.foldl_cons, fold_bit i ks, Nat.testBit_or, Nat.testBit_two_pow, Bool.or_assoc]
    congr 1
    by_cases e : i = k
    · subst e; simp
    · have e2 : ¬ k = i := fun z => e z.symm
      simp [e, e2]
theorem fb_eq {ks : List Nat} {h : Nat} (hm : ∀ i, i ∈ ks ↔ h.testBit i = true) : fb ks = h := by
  refine Nat.eq_of_testBit_eq fun i => ?_
  unfold fb
  rw [fold_bit, Nat.zero_testBit, Bool.false_or]
  cases e : h.testBit i with
  | true => exact decide_eq_true ((hm i).mpr e)
  | false => exact decide_eq_false fun z => by rw [(hm i).mp z] at e; cases e
theorem fb_take {ks : List Nat} {i k : Nat} (h : ks[i]? = some k) : fb (ks.take (i + 1)) = fb (ks.take i) ||| 2 ^ k := by
  unfold fb
  rw [List.take_add_one, h]
  simp [List.foldl_append]
theorem fb_lt {ks : List Nat} {n : Nat} (hk : ∀ k ∈ ks, k < n) : fb ks < 2 ^ n := by
  refine Nat.lt_pow_two_of_testBit _ fun i hi => ?_
  unfold fb
  rw [fold_bit, Nat.zero_testBit, Bool.false_or]
  exact decide_eq_false fun z => by have := hk i z; omega
theorem intBits_nat {h : Nat} : h < 2 ^ (Builtin.Int.intBits (h : Int)) := by
  unfold Builtin.Int.intBits
  by_cases e : h = 0
  · subst e
    decide
  · rw [if_neg (by simpa using e)]
    have := Nat.lt_log2_self (n := h)
    simpa using this
theorem intBits_le60 {h n : Nat} (hh : h < 2 ^ n) : Builtin.Int.intBits (h : Int) ≤ n := PyProof.Rows.intBits_le (by simpa using hh)
/-! ### numbers as data -/
def nv (ns : List Nat) : List V := ns.map fun (n : Nat) => V.int (n : Int)
def nd' (ns : List Nat) : List PyData := ns.map fun (n : Nat) => PyData.int (n : Int)
theorem nv_at {ns : List Nat} {i n : Nat} (h : ns[i]? = some n) : (nv ns)[i]? = some (.int (n : Int)) := by
  unfold nv
  rw [List.getElem?_map, h]
  rfl
theorem nv_len (ns : List Nat) : (nv ns).length = ns.length := List.length_map ..
theorem dp_nv {K : PySem.W.Frag} {H : Hp} : ∀ ns : List Nat, DpAll K H (nv ns) (nd' ns)
  | [] => .nil
  | n :: ns => .cons (.int _) (dp_nv ns)
theorem nd_show : ∀ ns : List Nat, (∀ n ∈ ns, n < 2 ^ 61) → PyData.showableAll (nd' ns) = true
  | [], _ => rfl
  | n :: ns, h => by
    have h1 : n < 2 ^ 61 := h n List.mem_cons_self
    have e : n.log2 < 1920 := by
      by_cases z : n = 0
      · subst z; decide
      · exact Nat.lt_of_lt_of_le ((Nat.log2_lt z).mpr h1) (by decide)
    show (decide ((n : Int).natAbs.log2 < 1920) && PyData.showableAll (nd' ns)) = true
    rw [nd_show ns fun m hm => h m (List.mem_cons_of_mem _ hm), Bool.and_true]
    exact decide_eq_true (by simpa using e)
theorem nd_dict : ∀ ns : List Nat, PyData.hasDictAll (nd' ns) = false
  | [] => rfl
  | n :: ns => nd_dict ns
theorem nd_depth : ∀ ns : List Nat, PyData.depthAll (nd' ns) ≤ 1
  | [] => by simp [nd', PyData.depthAll]
  | n :: ns => by
    have := nd_depth ns
    show max _ (PyData.depthAll (nd' ns)) ≤ 1
    simp only [PyData.depth]
    omega
theorem nd_leaves : ∀ ns : List Nat, (∀ n ∈ ns, n < 2 ^ 61) → PyData.leavesShortAll 64 (nd' ns) = true
  | [], _ => rfl
  | n :: ns, h => by
    have h1 : n < 2 ^ 61 := h n List.mem_cons_self
    show (decide ((PyData.shown (.int (n : Int))).length ≤ 64) && PyData.leavesShortAll 64 (nd' ns)) = true
    rw [nd_leaves ns fun m hm => h m (List.mem_cons_of_mem _ hm), Bool.and_true]
    have h2 : (n : Int) < 10 ^ 19 := by omega
    exact decide_eq_true (Nat.le_trans (toString_length_le (v := (n : Int)) (by omega) (k := 19) (by decide) h2) (by decide))
theorem nd_weight : ∀ ns : List Nat, (∀ n ∈ ns, n < 2 ^ 61) → PyData.weightAll (nd' ns) ≤ 63 * ns.length
  | [], _ => Nat.le_refl _
  | n :: ns, h => by
    have h1 : n < 2 ^ 61 := h n List.mem_cons_self
    have ih := nd_weight ns fun m hm => h m (List.mem_cons_of_mem _ hm)
    have e : PyData.weight (.int (n : Int)) ≤ 62 := by
      simp only [PyData.weight]
      by_cases z : n = 0
      · subst z; decide
      · have := (Nat.log2_lt z).mpr h1
        rw [if_neg (by simpa using z)]
        simp
        omega
    show PyData.weight (.int (n : Int)) + 1 + PyData.weightAll (nd' ns) ≤ 63 * (ns.length + 1)
    omega
theorem nd_len {ns : List Nat} (h : ∀ n ∈ ns, n < 2 ^ 61) (hl : ns.length ≤ 1000) : (PyData.tuple (nd' ns)).shown.length ≤ sizeLine := by
  have h1 := PyData.shown_le 64 (by decide) (.tuple (nd' ns)) (nd_leaves ns h)
  have h2 : PyData.weight (.tuple (nd' ns)) ≤ 63 * ns.length := nd_weight ns h
  rw [sizeLine_eq]
  have h3 : (64 + 2) * PyData.weight (.tuple (nd' ns)) ≤ 66 * (63 * 1000) := Nat.mul_le_mul (by decide) (by omega)
  omega
end Bf
namespace Bf
open PySem PySem.Spec PyProof.Rows L2
abbrev sBits : Stmt := topS 1
abbrev sHas : Stmt := topS 2
abbrev sFrom : Stmt := topS 3
abbrev sHalved : Stmt := topS 11
abbrev sOrders : Stmt := topS 12
abbrev sLaw : Stmt := topS 13
theorem scHas : FnScope ["hand", "k"] ["hand", "k"] (defScope sHas) := ⟨rfl, rfl, rfl, by decide +kernel, rfl, by decide +kernel, by decide +kernel⟩
theorem scBits : FnScope ["hand", "k"] ["hand"] (defScope sBits) := ⟨rfl, rfl, rfl, by decide +kernel, rfl, by decide +kernel, by decide +kernel⟩
theorem scFrom : FnScope ["some", "hand", "k"] ["some"] (defScope sFrom) := ⟨rfl, rfl, rfl, by decide +kernel, rfl, by decide +kernel, by decide +kernel⟩
theorem scHalved : FnScope ["_law_one", "_law_found", "_law_place"] ["_law_one"] (defScope sHalved) := ⟨rfl, rfl, rfl, by decide +kernel, rfl, by decide +kernel, by decide +kernel⟩
theorem scOrders : FnScope ["_law_pot_here", "_law_row", "_law_mixed", "_law_k"] ["_law_pot_here", "_law_row"] (defScope sOrders) := ⟨rfl, rfl, rfl, by decide +kernel, rfl, by decide +kernel, by decide +kernel⟩
theorem scLaw : FnScope ["_law_script", "_law_k", "_law_pot_here", "_law_turn", "_law_one", "_law_due", "_law_row"] ["_law_script"] (defScope sLaw) := ⟨rfl, rfl, rfl, by decide +kernel, rfl, by decide +kernel, by decide +kernel⟩
section
variable {P : Program} {w : World} {K : PySem.W.Frag} {mg : Str → Option Value} {base : Heap} {f fT fO fF fH : Addr} {fd fdT fdO fdF fdH : FuncData} {k : Nat}
/-! ### has_bit -/
theorem op_shrNN {X : Cx} : OpR X (binaryOp .RShift) (fun x y H Q => ∃ n m : Nat, x = .int (n : Int) ∧ y = .int (m : Int) ∧ Q (.int ((n / 2 ^ m : Nat) : Int)) H) := by
  intro pins s σ H x y v u Q I rx ry h
  obtain ⟨n, m, rfl, rfl, q⟩ := h
  refine op_shrN pins s σ H _ _ v u Q I rx ry ⟨(n : Int), m, rfl, rfl, ?_⟩
  rw [Int.natCast_ediv, Int.natCast_pow] at q
  exact q
def spHas : Sp := fun vs H Q _ => ∃ h k : Nat, vs = [.int h, .int k] ∧ Q (.bl (h.testBit k)) H
theorem ok_has (F : Fun K "has_bit" "has_bit" sHas f fd) : FnOk P w K mg base CX0 (k + 1) f fd ["hand", "k"] spHas := by
  refine F.ok scHas (fun vs H Q E h => ?_) (fun cdv A outer s H vs Q E hr h => ?_)
  · obtain ⟨a, n, rfl, _⟩ := h
    rfl
  · obtain ⟨h, k, rfl, q⟩ := h
    refine ⟨_, pss_one (ps_ret (pe_cmpR op_eq (pe_op op_odd (pe_op op_shrNN (pv 0) (pv 1)) pe_int) pe_int (nomark _))), ?_⟩
    refine ⟨.int h, rfl, .int k, rfl, h, k, rfl, rfl, h / 2 ^ k, rfl, rfl, rfl, ?_⟩
    have e : decide (V.int ((h / 2 ^ k % 2 : Nat) : Int) = V.int 1) = h.testBit k := by
      rw [Nat.testBit_eq_decide_div_mod_eq, dec_int]
      by_cases z : h / 2 ^ k % 2 = 1
      · rw [decide_eq_true z, z]; rfl
      · rw [decide_eq_false z]
        exact beq_eq_false_iff_ne.mpr (by omega)
    show Q (.bl (decide (V.int ((h / 2 ^ k % 2 : Nat) : Int) = V.int 1))) H
    rw [e]
    exact q
/-! ### bits -/
def spBits (K : PySem.W.Frag) : Sp := fun vs H Q _ => ∃ h : Nat, vs = [.int h] ∧ h < 2 ^ 60 ∧ ∀ H' p, Same H H' → H p = none → H' p = some (.tup (nv (bl 60 h))) → Q (.ref p) H'
theorem ok_bits (F : Fun K "bits" "bits" sBits f fd) (GH : FnOk P w K mg base CX0 1 fH fdH ["hand", "k"] spHas) (kH : PySem.W.keepIn K (.ref fH) = true) (bH : Binds K fdH ["hand", "k"] []) (gH : mg "has_bit" = some (.ref fH)) (mt : mg "tuple" = none) (mr : mg "range" = none) :
    FnOk P w K mg base CX0 2 f fd ["hand"] (spBits K) := by
  refine F.ok scBits (fun vs H Q E h => ?_) (fun cdv A outer s H vs Q E hr h => ?_)
  · obtain ⟨a, rfl, _⟩ := h
    rfl
  · obtain ⟨h, rfl, h60, q⟩ := h
    refine ⟨_, pss_one (ps_ret (pe_callTy call_tuple_of (by rfl) mt (by decide +kernel) (pa_cons (pe_lc (own := [("k", 1)]) (g := gName 1) (by rfl) scBits.nd (pi_range1 (by rfl) mr (pa_cons (pe_bits (pv 0)) pa_nil))
      (blkOk_by (own := [("k", 1)]) (N := ["hand", "k"]) (sc := defScope sBits) (by decide +kernel)) (fun _ _ _ _ _ => pg_name (i := 1) scBits.nd rfl (Or.inl rfl))
      (fun _ _ _ _ _ => pts_one (pt_val (pe_call GH hr (by rfl) gH kH bH .nil pass0 (pa_cons (pv 0) (pa_cons (pv 1) pa_nil))))) (fun _ _ _ _ _ => pv 1)) pa_nil))), ?_⟩
    have hn : Builtin.Int.intBits (h : Int) ≤ 60 := intBits_le60 h60
    have hb := intBits_nat (h := h)
    refine ⟨.int h, rfl, h, rfl, _, rfl, (by omega), (by omega), fun D nD => lc_range (lo := 0) (n := Builtin.Int.intBits (h : Int)) (fun i H' => Same H H' ∧ H' D = some (.lst (nv (bl i h)))) ⟨same_new (Same.refl H) nD, upd_same⟩ ?_ ?_⟩
    · rintro i H1 hi ⟨sm, eD⟩
      refine ⟨rfl, .int h, rfl, .int (0 + i), rfl, h, i, by rw [Int.zero_add]; rfl, _, rfl, ite2 (fun e => ?_) (fun e => ?_)⟩
      · refine ⟨_, rfl, _, eD, ?_, fun b o z => ?_, ?_⟩
        · rw [nv_len]
          exact Nat.lt_of_le_of_lt (Nat.le_trans (bl_len i h) (by omega : i ≤ 60)) (by decide)
        · have e1 := sm b o z
          rw [upd_ne (ne_of_none z nD)]
          exact e1
        · rw [upd_same, bl_succ, e, Int.zero_add]
          simp [nv]
      · refine ⟨sm, ?_⟩
        rw [eD, bl_succ]
        simp [e]
    · rintro H1 ⟨sm, eD⟩
      refine ⟨D, _, rfl, .inl ⟨.inl (.inl eD), fun p np => ?_⟩⟩
      refine q _ p (same_new sm np) (sm.free np) ?_
      rw [upd_same, bl_eq hb h60]
/-! ### from_bits -/
def spFrom (K : PySem.W.Frag) : Sp := fun vs H Q _ => ∃ (a : Addr) (ks : List Nat), vs = [.ref a] ∧ SqT K H a (nv ks) ∧ (∀ k ∈ ks, k < 1000) ∧ Q (.int (fb ks : Nat)) H
theorem iop_orN {X : Cx} : OpR X (inplaceOp .BitOr) (fun x y H Q => ∃ n m : Nat, x = .int (n : Int) ∧ y = .int (m : Int) ∧ Q (.int ((n ||| m : Nat) : Int)) H) := by
  intro pins s σ H x y v u Q I rx ry h
  obtain ⟨n, m, rfl, rfl, q⟩ := h
  refine iop_or pins s σ H _ _ v u Q I rx ry ⟨(n : Int), (m : Int), rfl, rfl, ?_⟩
  show Q (.int (Builtin.bitOr (n : Int) (m : Int))) H
  rw [bitOr_nn (Int.natCast_nonneg n) (Int.natCast_nonneg m)]
  exact q
theorem ok_from (F : Fun K "from_bits" "from_bits" sFrom f fd) : FnOk P w K mg base CX0 (k + 1) f fd ["some"] (spFrom K) := by
  refine F.ok scFrom (fun vs H Q E h => ?_) (fun cdv A outer s H vs Q E hr h => ?_)
  · obtain ⟨a, n, rfl, _⟩ := h
    rfl
  · obtain ⟨a, ks, rfl, hT, hk, q⟩ := h
    refine ⟨_, pss_cons (ps_set (i := 1) scFrom.nd rfl (.inl rfl) pe_int) (pss_cons (ps_for PassesOwn.never rfl (pi_tup (pv 0)) (pg_name (i := 2) scFrom.nd rfl (.inl rfl)) (pss_one (ps_aug (i := 1) scFrom.nd rfl (.inl rfl) (pe_op op_bit pe_int (pv 2)) iop_orN)))
      (pss_one (ps_ret (pv 1)))), ?_⟩
    refine ⟨.ref a, rfl, a, rfl, ⟨_, hT⟩, for_tup (xs := nv ks) (fun i σ H' => ∃ y, σ = [some (.ref a), some (.int (fb (ks.take i) : Nat)), y] ∧ H' = H) ⟨none, rfl, rfl⟩ (fun i σ H' _ hp => ?_) (fun i x σ H' hx hp => ?_) (fun σ H' hp => ?_)⟩
    · obtain ⟨y, _, rfl⟩ := hp
      exact hT
    · obtain ⟨y, rfl, rfl⟩ := hp
      obtain ⟨kk, hkk, rfl⟩ : ∃ kk, ks[i]? = some kk ∧ V.int (kk : Int) = x := by
        unfold nv at hx
        rw [List.getElem?_map] at hx
        cases e : ks[i]? with
        | none => rw [e] at hx; cases hx
        | some z => rw [e] at hx; exact ⟨z, rfl, Option.some.inj hx⟩
      have hlt : kk < 1000 := hk kk (List.mem_of_getElem? hkk)
      refine ⟨_, rfl, .int kk, rfl, kk, rfl, rfl, by omega, fb (ks.take i), 2 ^ kk, rfl, rfl, some (.int kk), ?_, rfl⟩
      rw [fb_take hkk]
      rfl
    · obtain ⟨y, rfl, rfl⟩ := hp
      refine ⟨_, rfl, ?_⟩
      rw [nv_len, List.take_length]
      exact q
/-! ### halved -/
def spHalved (K : PySem.W.Frag) : Sp := fun vs H Q _ => ∃ h : Nat, vs = [.int h] ∧ h < 2 ^ 60 ∧ ∀ H' p, Same H H' → H p = none → H' p = some (.tup (nv (bl 60 h))) → Q (.ref p) H'
def HvP (H : Hp) (D : Addr) (h : Nat) (σ : L2.St) (H' : Hp) : Prop := ∃ i : Nat, i ≤ 60 ∧ σ = [some (.int ((h / 2 ^ i : Nat) : Int)), some (.ref D), some (.int (i : Int))] ∧ Same H H' ∧ H' D = some (.lst (nv (bl i h)))
def HvM (σ : L2.St) (_ : Hp) : Nat := match σ with | some (V.int z) :: _ => z.toNat | _ => 0
theorem ok_halved (F : Fun K "_law_halved" "_law_halved" sHalved f fd) (mt : mg "tuple" = none) : FnOk P w K mg base CX0 (k + 1) f fd ["_law_one"] (spHalved K) := by
  refine F.ok scHalved (fun vs H Q E h => ?_) (fun cdv A outer s H vs Q E hr h => ?_)
  · obtain ⟨a, rfl, _⟩ := h
    rfl
  · obtain ⟨h, rfl, h60, q⟩ := h
    refine ⟨_, pss_cons (ps_par (i := 1) (j := 2) (by rfl) scHalved.nd rfl rfl (by decide) rfl rfl (pa_cons (pe_lst pa_nil) (pa_cons pe_int pa_nil)) (by rfl))
      (pss_cons (ps_while PassesOwn.never (pt_cmpR op_gt (pv 0) pe_int (nomark _))
        (pss_cons (ps_if (pt_cmpR op_eq (pe_op op_mod (pv 0) pe_int) pe_int (nomark _)) (pss_one (ps_expr (pe_bm PySem.F.plainAttrs_list PySem.F.slot_list_append PySem.F.type_list_append mt_append (pv 1) (pa_cons (pv 2) pa_nil)))) pss_nil)
        (pss_one (ps_par (i := 0) (j := 2) (by rfl) scHalved.nd rfl rfl (by decide) rfl rfl (pa_cons (pe_op op_fdivNN (pv 0) pe_int) (pa_cons (pe_op op_addN (pv 2) pe_int) pa_nil)) (by rfl)))))
      (pss_one (ps_ret (pe_callTy call_tuple_of (by rfl) mt (by decide +kernel) (pa_cons (pv 1) pa_nil))))), ?_⟩
    refine ⟨Nat.zero_le _, fun D nD => ⟨_, _, rfl, ?_⟩⟩
    refine while_by (HvP H D h) HvM ?_ ?_ ?_
    · exact ⟨0, by decide, by rw [Nat.pow_zero, Nat.div_one]; rfl, same_new (Same.refl H) nD, upd_same⟩
    · rintro σ H1 ⟨i, hi, rfl, sm, eD⟩
      refine ⟨_, rfl, _, _, rfl, rfl, _, rfl, ite2 (fun e => ?_) (fun e => ?_)⟩
      · have e1 : (0 : Int) < ((h / 2 ^ i : Nat) : Int) := of_decide_eq_true e
        have hi2 : i < 60 := Nat.lt_of_not_le fun l => by
          have : h / 2 ^ i = 0 := Nat.div_eq_of_lt (Nat.lt_of_lt_of_le h60 (Nat.pow_le_pow_right (by decide) l))
          omega
        have hbit : decide (V.int (((h / 2 ^ i : Nat) : Int) % 2) = V.int 1) = h.testBit i := by
          rw [Nat.testBit_eq_decide_div_mod_eq, dec_int]
          by_cases z : h / 2 ^ i % 2 = 1
          · rw [decide_eq_true z]
            exact beq_iff_eq.mpr (by omega)
          · rw [decide_eq_false z]
            exact beq_eq_false_iff_ne.mpr (by omega)
        have go : ∀ H2, Same H H2 → H2 D = some (.lst (nv (bl (i + 1) h))) → HvP H D h [some (.int ((h / 2 ^ i / 2 : Nat) : Int)), some (.ref D), some (.int ((i + 1 : Nat) : Int))] H2 ∧
            HvM [some (.int ((h / 2 ^ i / 2 : Nat) : Int)), some (.ref D), some (.int ((i + 1 : Nat) : Int))] H2 < HvM [some (.int ((h / 2 ^ i : Nat) : Int)), some (.ref D), some (.int (i : Int))] H1 := fun H2 s2 e2 => by
          refine ⟨⟨i + 1, hi2, ?_, s2, e2⟩, ?_⟩
          · rw [Nat.pow_succ, ← Nat.div_div_eq_div_mul]
          · show h / 2 ^ i / 2 < h / 2 ^ i
            omega
        refine ⟨_, rfl, _, _, rfl, rfl, (show (0 : Int) < 2 by decide), rfl, _, rfl, ite2 (fun e2 => ?_) (fun e2 => ?_)⟩
        · refine ⟨.ref D, rfl, .inl ⟨rfl, _, .inl (.inl eD)⟩, .int i, rfl, D, _, _, rfl, rfl, eD, ?_, ?_⟩
          · rw [nv_len]
            exact Nat.lt_of_le_of_lt (Nat.le_trans (bl_len i h) (by omega : i ≤ 60)) (by decide)
          · refine ⟨_, rfl, h / 2 ^ i, 2, rfl, rfl, ⟨by decide, by decide⟩, _, rfl, i, 1, rfl, rfl, _, _, rfl, go _ (fun b o z => ?_) ?_⟩
            · rw [upd_ne (ne_of_none z nD)]
              exact sm b o z
            · have e3 : h.testBit i = true := hbit.symm.trans e2
              rw [upd_same, bl_succ, e3]
              simp [nv]
        · refine ⟨_, rfl, h / 2 ^ i, 2, rfl, rfl, ⟨by decide, by decide⟩, _, rfl, i, 1, rfl, rfl, _, _, rfl, go _ sm ?_⟩
          have e3 : ¬ h.testBit i = true := fun z => e2 (hbit.trans z)
          rw [eD, bl_succ]
          simp [e3]
      · have e1 : ¬ (0 : Int) < ((h / 2 ^ i : Nat) : Int) := fun z => e (decide_eq_true z)
        have hlt : h < 2 ^ i := by
          have : h / 2 ^ i = 0 := Nat.eq_zero_of_not_pos fun z => e1 (Int.ofNat_lt.mpr z)
          exact (Nat.div_eq_zero_iff.mp this).resolve_left (by have := Nat.one_le_two_pow (n := i); omega)
        refine ⟨.ref D, rfl, D, _, rfl, .inl ⟨.inl (.inl eD), fun p np => ?_⟩⟩
        refine q _ p (same_new sm np) (sm.free np) ?_
        rw [upd_same, bl_eq hlt h60]
    · rintro σ H1 Q1 Q2 hQ ⟨x, e1, i, j, e2, e3, k, e4, z⟩
      exact ⟨x, e1, i, j, e2, e3, k, e4, hQ _ _ z⟩
/-! ### tuples that expressions give -/
theorem sameT {H H' : Hp} {a : Addr} {xs : List V} (e : Same H H') (h : SqT K H a xs) : SqT K H' a xs := by
  rcases h with (h | ⟨o, h⟩) | h
  · exact .inl (.inl (e _ _ h))
  · exact .inl (.inr ⟨o, e _ _ h⟩)
  · exact .inr h
def GT (K : PySem.W.Frag) (t : TE) (σ : L2.St) (H : Hp) (vs : List V) : Prop := ∀ H1, Same H H1 → ∀ Q : VK, (∀ H2 x, Same H1 H2 → SqT K H2 x vs → Q (.ref x) H2) → t σ H1 Q
theorem gt_var {i : Nat} {σ : L2.St} {H : Hp} {b : Addr} {vs : List V} (h : SqT K H b vs) (hi : σ[i]? = some (some (.ref b))) : GT K (tVar i) σ H vs := fun H1 s Q q => ⟨_, hi, q H1 b (Same.refl _) (sameT s h)⟩
theorem gt_rev {te : TE} {σ : L2.St} {H : Hp} {vs : List V} (h : GT K te σ H vs) : GT K (tRevT K te) σ H vs.reverse := fun H1 s Q q => h H1 s _ fun H2 x s2 hx =>
  ⟨x, vs, rfl, hx, fun p np => q _ p (same_new s2 np) (.inl (.inl upd_same))⟩
theorem gt_tup {te : TE} {σ : L2.St} {H : Hp} {i : Nat} {b : Addr} {vs : List V} (h : SqL K H b vs) (hi : σ[i]? = some (some (.ref b))) :
    GT K (tCB (fun xs H Q => ∃ p ys, xs = [.ref p] ∧ ((SqL K H p ys ∧ ∀ l, H l = none → Q (.ref l) (upd H l (.tup ys))) ∨ (SqT K H p ys ∧ Q (.ref p) H))) (tCons (tVar i) tNil)) σ H vs := fun H1 s Q q =>
  ⟨_, hi, b, vs, rfl, .inl ⟨s.seq h, fun p np => q _ p (same_new (Same.refl _) np) (.inl (.inl upd_same))⟩⟩
theorem gt_cut {te : TE} {σ : L2.St} {H : Hp} {vs : List V} {n : Nat} (h : GT K te σ H vs) : GT K (tSl (rSlA K) te tNoPart (tPart (tC (.int (n : Int))))) σ H (vs.take n) := fun H1 s Q q => h H1 s _ fun H2 x s2 hx => by
  refine ⟨_, rfl, x, vs, rfl, hx, fun w => ?_, fun w p np => ?_⟩
  · have e : vs.take n = vs := List.take_of_length_le (by
      have := w.2
      rw [HT.sIx_nat] at this
      omega)
    exact q H2 x s2 (by rw [e]; exact hx)
  · have e : cutV vs none (some (n : Int)) = vs.take n := by
      unfold cutV
      rw [HT.sIx_none, HT.sIx_nat, List.drop_zero, Nat.sub_zero]
      rcases Nat.le_total n vs.length with l | l
      · rw [Nat.min_eq_left l]
      · rw [Nat.min_eq_right l, List.take_of_length_le l, List.take_length]
    rw [e]
    exact q _ p (same_new s2 np) (.inl (.inl upd_same))
theorem gt_cat {ta tb : TE} {σ : L2.St} {H : Hp} {xs ys : List V} (ha : GT K ta σ H xs) (hb : GT K tb σ H ys) (hz : xs.length + ys.length ≤ sizeLine) : GT K (tOp (rCatA K) ta tb) σ H (xs ++ ys) := fun H1 s Q q => ha H1 s _ fun H2 x s2 hx =>
  hb H2 (s.trans s2) _ fun H3 y s3 hy => by
    refine ⟨x, y, xs, ys, rfl, rfl, sameT s3 hx, hy, hz, fun e => ?_, fun _ e => ?_, fun _ _ p np => ?_⟩
    · exact q H3 y (s2.trans s3) (by rw [e]; exact hy)
    · exact q H3 x (s2.trans s3) (by rw [e, List.append_nil]; exact sameT s3 hx)
    · exact q _ p (same_new (s2.trans s3) np) (.inl (.inl upd_same))
theorem gt_rep {ta : TE} {σ : L2.St} {H : Hp} {xs : List V} {n : Nat} (ha : GT K ta σ H xs) (h2 : 2 ≤ n) (h1 : n ≤ 1000) (hz : xs.length ≤ 1000) : GT K (tOp (rRepA K) ta (tC (.int (n : Int)))) σ H (List.replicate n xs).flatten := fun H1 s Q q => ha H1 s _ fun H2 x s2 hx => by
  refine ⟨x, n, xs, rfl, rfl, hx, by omega, by omega, hz, fun e => ?_, fun _ p np => ?_⟩
  · have e2 : (List.replicate n xs).flatten = xs := by
      subst e
      simp
    exact q H2 x s2 (by rw [e2]; exact hx)
  · exact q _ p (same_new s2 np) (.inl (.inl upd_same))
theorem nv_rev (ks : List Nat) : (nv ks).reverse = nv ks.reverse := by unfold nv; rw [List.map_reverse]
theorem nv_take (ks : List Nat) (n : Nat) : (nv ks).take n = nv (ks.take n) := by unfold nv; rw [List.map_take]
theorem nv_app (ks js : List Nat) : nv ks ++ nv js = nv (ks ++ js) := by unfold nv; rw [List.map_append]
theorem nv_rep (ks : List Nat) (n : Nat) : (List.replicate n (nv ks)).flatten = nv (List.replicate n ks).flatten := by unfold nv; rw [List.map_flatten, List.map_replicate]
theorem mem_rep {ks : List Nat} {n x : Nat} : x ∈ (List.replicate (n + 1) ks).flatten ↔ x ∈ ks := by
  constructor
  · intro h
    obtain ⟨l, hl, hx⟩ := List.mem_flatten.mp h
    rw [List.eq_of_mem_replicate hl] at hx
    exact hx
  · exact fun h => List.mem_flatten.mpr ⟨ks, List.mem_replicate.mpr ⟨by omega, rfl⟩, h⟩
/-! ### orders -/
def spOrders (K : PySem.W.Frag) : Sp := fun vs H Q _ => ∃ (a b : Addr) (ks : List Nat) (m : Nat), vs = [.ref a, .ref b] ∧ (∀ H', Keeps a H H' → SqT K H' b (nv ks)) ∧ ks.length ≤ 60 ∧ Pot H a m ∧ m < 50000 ∧
  ∀ H' p (ts : List Addr), Keeps a H H' → Pot H' a (m + 60) → H p = none → H' p = some (.lst (ts.map V.ref)) → (∀ t ∈ ts, ∃ rs : List Nat, SqT K H' t (nv rs) ∧ ∀ x, x ∈ rs ↔ x ∈ ks) → Q (.ref p) H'
theorem ok_orders (F : Fun K "_law_orders" "_law_orders" sOrders f fd) (GT' : FnOk P w K mg base CX0 1 fT fdT ["_law_pot_here", "_law_size_here"] spTake) (kT : PySem.W.keepIn K (.ref fT) = true) (bT : Binds K fdT ["_law_pot_here", "_law_size_here"] []) (gT : mg "_law_take" = some (.ref fT)) (ml : mg "len" = none) (mt : mg "tuple" = none) :
    FnOk P w K mg base CX0 2 f fd ["_law_pot_here", "_law_row"] (spOrders K) := by
  refine F.ok scOrders (fun vs H Q E h => ?_) (fun cdv A outer s H vs Q E hr h => ?_)
  · obtain ⟨a, b, ks, m, rfl, _⟩ := h
    rfl
  · obtain ⟨a, b, ks, m, rfl, hT, hl, hp, hm, q⟩ := h
    refine ⟨_, pss_cons (ps_set (i := 2) scOrders.nd rfl (.inl rfl) (pe_lst pa_nil))
      (pss_cons (ps_for PassesOwn.never rfl (pi_tup (pv 1)) (pg_name (i := 3) scOrders.nd rfl (.inl rfl)) (pss_one (ps_expr (pe_bm PySem.F.plainAttrs_list PySem.F.slot_list_insert PySem.F.type_list_insert mt_insert (pv 2)
        (pa_cons (pe_call GT' hr (by rfl) gT kT bT .nil pass0 (pa_cons (pv 0) (pa_cons (pe_op op_addN (pe_callB call_len_seq (by rfl) ml PySem.boot_len (pa_cons (pv 2) pa_nil)) pe_int) pa_nil))) (pa_cons (pv 3) pa_nil))))))
      (pss_one (ps_ret (pe_lst (pa_cons (pv 1) (pa_cons (pe_revT (pv 1)) (pa_cons (pe_callTy call_tuple_of (by rfl) mt (by decide +kernel) (pa_cons (pv 2) pa_nil))
        (pa_cons (pe_op op_catA (pe_callTy call_tuple_of (by rfl) mt (by decide +kernel) (pa_cons (pv 2) pa_nil)) (pe_slice sl_tupA (pv 1) po_none (po_some pe_int)))
        (pa_cons (pe_op op_repA (pv 1) pe_int)
        (pa_cons (pe_op op_catA (pe_op op_repA (pe_slice sl_tupA (pv 1) po_none (po_some pe_int)) pe_int) (pe_callTy call_tuple_of (by rfl) mt (by decide +kernel) (pa_cons (pv 2) pa_nil))) pa_nil)))))))))), ?_⟩
    refine ⟨Nat.zero_le _, fun D nD => ?_⟩
    have hDa : D ≠ a := fun e => by
      obtain ⟨x, y, z, hH, _⟩ := hp
      rw [e, hH] at nD
      cases nD
    refine ⟨.ref b, rfl, b, rfl, ⟨_, hT _ ((Keeps.refl a H).new nD)⟩, for_tup (xs := nv ks) (fun i σ H' => ∃ y ms, σ = [some (.ref a), some (.ref b), some (.ref D), y] ∧ ms.length = i ∧ (∀ x, x ∈ ms ↔ x ∈ ks.take i) ∧ H' D = some (.lst (nv ms)) ∧ Keeps a H H' ∧ Pot H' a (m + i)) ?_ ?_ ?_ ?_⟩
    · exact ⟨none, [], rfl, rfl, fun x => Iff.rfl, upd_same, (Keeps.refl a H).new nD, hp.new nD⟩
    · rintro i σ H1 hi ⟨y, ms, _, _, _, _, kp, _⟩
      exact hT H1 kp
    · rintro i x σ H1 hx ⟨y, ms, rfl, hms, hmem, eD, kp, pp⟩
      obtain ⟨kk, hkk, rfl⟩ : ∃ kk, ks[i]? = some kk ∧ V.int (kk : Int) = x := by
        unfold nv at hx
        rw [List.getElem?_map] at hx
        cases e : ks[i]? with
        | none => rw [e] at hx; cases hx
        | some z => rw [e] at hx; exact ⟨z, rfl, Option.some.inj hx⟩
      have hi : i < ks.length := (List.getElem?_eq_some_iff.mp hkk).1
      refine ⟨.ref D, rfl, .inl ⟨rfl, _, .inl (.inl eD)⟩, .ref a, rfl, .ref D, rfl, D, _, rfl, .inl (.inl (.inl eD)), (nv ms).length, 1, rfl, rfl, a, (nv ms).length + 1, m + i, rfl, by omega, by rw [nv_len]; omega, pp, by omega, fun r H2 lr k2 p2 => ?_⟩
      have eD2 : H2 D = some (.lst (nv ms)) := k2 D _ hDa eD
      refine ⟨_, rfl, D, _, (r : Int), _, rfl, rfl, eD2, by rw [nv_len]; exact Nat.lt_of_lt_of_le (by omega : ms.length < 61) (by decide), by omega, by rw [nv_len] at lr; omega, ?_⟩
      have e5 : (nv ms).take (r : Int).toNat ++ [V.int (kk : Int)] ++ (nv ms).drop (r : Int).toNat = nv (ms.take r ++ [kk] ++ ms.drop r) := by
        unfold nv
        rw [List.map_append, List.map_append, List.map_take, List.map_drop]
        rfl
      refine ⟨some (.int kk), ms.take r ++ [kk] ++ ms.drop r, rfl, ?_, fun x => ?_, by rw [upd_same, e5], fun c o nc z => ?_, ?_⟩
      · rw [nv_len] at lr
        rw [List.length_append, List.length_append, List.length_take, List.length_drop, List.length_singleton]
        omega
      · rw [List.take_add_one, hkk, List.mem_append, List.mem_append, List.mem_append, ← hmem x]
        have : x ∈ ms ↔ x ∈ ms.take r ∨ x ∈ ms.drop r := by
          rw [← List.mem_append, List.take_append_drop]
        simp only [List.mem_singleton, Option.toList]
        rw [this]
        constructor
        · rintro ((h | h) | h)
          · exact .inl (.inl h)
          · exact .inr h
          · exact .inl (.inr h)
        · rintro ((h | h) | h)
          · exact .inl (.inl h)
          · exact .inr h
          · exact .inl (.inr h)
      · rw [upd_ne (ne_of_none z nD)]
        exact k2 c o nc (kp c o nc z)
      · obtain ⟨x, y, z, hH, hh⟩ := p2
        exact ⟨x, y, z, by rw [upd_ne hDa.symm]; exact hH, hh⟩
    · rintro σ H1 ⟨y, ms, rfl, hms, hmem, eD, kp, pp⟩
      rw [nv_len, List.take_length] at hmem
      rw [nv_len] at hms pp
      have hb : SqT K H1 b (nv ks) := hT H1 kp
      have hD : SqL K H1 D (nv ms) := .inl (.inl eD)
      have z1 : (nv ms).length ≤ 60 := by rw [nv_len]; omega
      have z2 : ∀ n, ((nv ks).take n).length ≤ 60 := fun n => by rw [List.length_take, nv_len]; omega
      refine ⟨.ref b, rfl, ?_⟩
      refine gt_rev (gt_var hb rfl) H1 (Same.refl _) _ fun H2 x2 s2 h2 => ?_
      refine gt_tup (te := tVar 0) hD rfl H2 s2 _ fun H3 x3 s3 h3 => ?_
      have t3 := s2.trans s3
      refine gt_cat (gt_tup (te := tVar 0) hD rfl) (gt_cut (n := 2) (gt_var hb rfl)) (by have := z2 2; rw [sizeLine_eq]; omega) H3 t3 _ fun H4 x4 s4 h4 => ?_
      have t4 := t3.trans s4
      refine gt_rep (n := 2) (gt_var hb rfl) (by decide) (by decide) (by rw [nv_len]; omega) H4 t4 _ fun H5 x5 s5 h5 => ?_
      have t5 := t4.trans s5
      refine gt_cat (gt_rep (n := 3) (gt_cut (n := 1) (gt_var hb rfl)) (by decide) (by decide) (by have := z2 1; omega)) (gt_tup (te := tVar 0) hD rfl) ?_ H5 t5 _ fun H6 x6 s6 h6 => ?_
      · rw [PyProof.Rows.lm_len_rep_flat, sizeLine_eq]
        have := z2 1
        omega
      have t6 := t5.trans s6
      refine ⟨(by show 6 ≤ sizeLine; decide), fun p np => ?_⟩
      have sp : Same H6 (upd H6 p (.lst [.ref b, .ref x2, .ref x3, .ref x4, .ref x5, .ref x6])) := same_new (Same.refl _) np
      have npH : H p = none := by
        cases e : H p with
        | none => rfl
        | some o =>
          by_cases ea : p = a
          · obtain ⟨x, y, z, hH, _⟩ := pp
            rw [ea, t6 _ _ hH] at np
            cases np
          · rw [t6 _ _ (kp p o ea e)] at np
            cases np
      refine q _ p [b, x2, x3, x4, x5, x6] ((kp.trans (Keeps.of_same t6)).new np) (((pp.same t6).new np).up (by omega)) npH upd_same ?_
      intro t ht
      simp only [List.mem_cons, List.not_mem_nil, or_false] at ht
      rcases ht with rfl | rfl | rfl | rfl | rfl | rfl
      · exact ⟨ks, sameT (t6.trans sp) hb, fun x => Iff.rfl⟩
      · rw [nv_rev] at h2
        exact ⟨_, sameT ((((s3.trans s4).trans s5).trans s6).trans sp) h2, fun x => List.mem_reverse⟩
      · exact ⟨ms, sameT (((s4.trans s5).trans s6).trans sp) h3, hmem⟩
      · rw [nv_take, nv_app] at h4
        refine ⟨_, sameT ((s5.trans s6).trans sp) h4, fun x => ?_⟩
        rw [List.mem_append, hmem x]
        exact ⟨fun z => z.elim id fun y => List.mem_of_mem_take y, .inl⟩
      · rw [nv_rep] at h5
        exact ⟨_, sameT (s6.trans sp) h5, fun x => mem_rep (n := 1)⟩
      · rw [nv_take, nv_rep, nv_app] at h6
        refine ⟨_, sameT sp h6, fun x => ?_⟩
        rw [List.mem_append, hmem x]
        exact ⟨fun z => z.elim (fun y => List.mem_of_mem_take (mem_rep (n := 2) |>.mp y)) id, .inr⟩
/-! ### the law -/
theorem same_keeps {H H0 H' : Hp} {p : Addr} (hp : H p = none) (s : Same H H0) (k : Keeps p H0 H') : Same H H' := fun b o e => k b o (ne_of_none e hp) (s b o e)
theorem dp_tup {H : Hp} {a : Addr} {ns : List Nat} (h : SqT K H a (nv ns)) : Dp K H (.ref a) (.tuple (nd' ns)) := .tup h (dp_nv ns)
theorem nd_canAll : ∀ ns : List Nat, PyData.canLayAll0 (nd' ns) = true
  | [] => rfl
  | n :: ns => nd_canAll ns
theorem nd_can (ns : List Nat) : PyData.canLay0 (.tuple (nd' ns)) = true := nd_canAll ns
theorem nd_dep (ns : List Nat) : PyData.depth (.tuple (nd' ns)) ≤ 2 := by
  have := nd_depth ns
  show PyData.depthAll (nd' ns) + 1 ≤ 2
  omega
theorem nd_shaped (ns : List Nat) : SeqAt.shaped (.tuple (nd' ns)) = true := by
  unfold SeqAt.shaped
  rw [nd_can, Bool.true_and]
  exact decide_eq_true (Nat.le_trans (nd_dep ns) (by decide))
theorem bl_small {n h i : Nat} (hn : n ≤ 60) (hi : i ∈ bl n h) : i < 2 ^ 61 := Nat.lt_trans (Nat.lt_of_lt_of_le (bl_lt hi) hn) (by decide)
theorem log_small {n : Nat} (h : n < 2 ^ 61) : (n : Int).natAbs.log2 < 1920 := by
  by_cases z : n = 0
  · subst z; decide
  · have := (Nat.log2_lt z).mpr h
    simpa using (Nat.lt_of_lt_of_le this (by decide) : n.log2 < 1920)
theorem kb1 {x n : Str} {st : Stmt} (F : Fun K x x st f fd) (h1 : ∀ (kV doc pm : Value) (an : Option Addr) (cdv ct u : Value), bindArgs (PySem.W.fnOf x x (defArgs st) (defBody st) (defScope st) .none kV doc pm an cdv ct) ⟨[], [(n, u)]⟩ = pure [(n, u)])
    (h2 : ∀ (kV doc pm : Value) (an : Option Addr) (cdv ct u : Value), bindArgs (PySem.W.fnOf x x (defArgs st) (defBody st) (defScope st) .none kV doc pm an cdv ct) ⟨[u], []⟩ = pure [(n, u)]) : KBinds K fd [n] [n] (fun us ws => us ++ ws) (fun vs zs => vs ++ zs) := by
  obtain ⟨oc, od, kV, doc, pm, an, cdv, ct, osl, rfl, lk, hcd⟩ := F.ex
  refine ⟨fun s us ws _ hl => ?_, fun r1 r2 => r1.append r2⟩
  match us, ws, hl with
  | [], [u], _ => exact .of_eq (h1 kV doc pm an cdv ct u)
  | [u], [], _ => exact .of_eq (h2 kV doc pm an cdv ct u)
  | [], [], hl => cases hl
  | [], _ :: _ :: _, hl => exact absurd (Nat.succ.inj hl) (by simp)
  | [_], _ :: _, hl => exact absurd (Nat.succ.inj hl) (by simp)
  | _ :: _ :: _, _, hl => exact absurd (Nat.succ.inj hl) (by simp)
structure Lw (K : PySem.W.Frag) (mg : Str → Option Value) (fB fFr fP fT fS fPe fHa fOr : Addr) : Prop where
  gB : mg "bits" = some (.ref fB)
  gFr : mg "from_bits" = some (.ref fFr)
  gP : mg "_law_pot" = some (.ref fP)
  gS : mg "_law_size" = some (.ref fS)
  gPe : mg "_law_person" = some (.ref fPe)
  gHa : mg "_law_halved" = some (.ref fHa)
  gOr : mg "_law_orders" = some (.ref fOr)
  len : mg "len" = none
  rng : mg "range" = none
  mx : mg "max" = none
  mn : mg "min" = none
  rp : mg "repr" = none
  tp : mg "tuple" = none
def spLaw (K : PySem.W.Frag) : Sp := fun vs H Q _ => ∃ (a : Addr) (ns : List Int), vs = [.ref a] ∧ SqL K H a (ns.map V.int) ∧ ns.length ≤ 63 ∧ ∀ H', Q (.bl true) H'
theorem ok_law {fB fFr fP fS fPe fHa fOr : Addr} {fdB fdFr fdP fdS fdPe fdHa fdOr : FuncData} (F : Fun K "law" "law" sLaw f fd) (T : Lw K mg fB fFr fP fT fS fPe fHa fOr)
    (GB : FnOk P w K mg base CX0 2 fB fdB ["hand"] (spBits K)) (kB : PySem.W.keepIn K (.ref fB) = true) (bB : Binds K fdB ["hand"] []) (kbB : KBinds K fdB ["hand"] ["hand"] (fun us ws => us ++ ws) (fun vs zs => vs ++ zs))
    (GFr : FnOk P w K mg base CX0 1 fFr fdFr ["some"] (spFrom K)) (kFr : PySem.W.keepIn K (.ref fFr) = true) (bFr : Binds K fdFr ["some"] []) (kbFr : KBinds K fdFr ["some"] ["some"] (fun us ws => us ++ ws) (fun vs zs => vs ++ zs))
    (GP : FnOk P w K mg base CX0 1 fP fdP ["_law_script", "_law_k"] (spPot K)) (kP : PySem.W.keepIn K (.ref fP) = true) (bP : Binds K fdP ["_law_script", "_law_k"] [])
    (GS : FnOk P w K mg base CX0 3 fS fdS ["_law_pot_here"] spSize) (kS : PySem.W.keepIn K (.ref fS) = true) (bS : Binds K fdS ["_law_pot_here"] [])
    (GPe : FnOk P w K mg base CX0 3 fPe fdPe ["_law_pot_here", "_law_size_here"] spPerson) (kPe : PySem.W.keepIn K (.ref fPe) = true) (bPe : Binds K fdPe ["_law_pot_here", "_law_size_here"] [])
    (GHa : FnOk P w K mg base CX0 1 fHa fdHa ["_law_one"] (spHalved K)) (kHa : PySem.W.keepIn K (.ref fHa) = true) (bHa : Binds K fdHa ["_law_one"] [])
    (GOr : FnOk P w K mg base CX0 2 fOr fdOr ["_law_pot_here", "_law_row"] (spOrders K)) (kOr : PySem.W.keepIn K (.ref fOr) = true) (bOr : Binds K fdOr ["_law_pot_here", "_law_row"] []) : FnG P w K mg base 4 f fd ["_law_script"] (spLaw K) := by
  refine fnG_of F scLaw (fun vs H Q E h => ?_) (fun cdv A outer s H vs Q E gd hr h => ?_)
  · obtain ⟨a, n, rfl, _⟩ := h
    rfl
  · obtain ⟨a, ns, rfl, hS, hl, q⟩ := h
    refine ⟨_, pss_cons (ps_for PassesOwn.never rfl (pi_range1 (by rfl) T.rng (pa_cons (pe_callB (call_max2 rfl) (by rfl) T.mx (by decide +kernel) (pa_cons pe_int (pa_cons (pe_callB (call_min2 rfl) (by rfl) T.mn (by decide +kernel)
        (pa_cons pe_int (pa_cons (pe_callB call_len_seq (by rfl) T.len PySem.boot_len (pa_cons (pv 0) pa_nil)) pa_nil))) pa_nil))) pa_nil)) (pg_name (i := 1) scLaw.nd rfl (.inl rfl))
      (pss_cons (ps_set (i := 2) scLaw.nd rfl (.inl rfl) (pe_call GP (hr.mono (by decide)) (by rfl) T.gP kP bP .nil pass0 (pa_cons (pv 0) (pa_cons (pv 1) pa_nil))))
      (pss_one (ps_for PassesOwn.never rfl (pi_range1 (by rfl) T.rng (pa_cons pe_int pa_nil)) (pg_name (i := 3) scLaw.nd rfl (.inl rfl))
        (pss_cons (ps_set (i := 4) scLaw.nd rfl (.inl rfl) (pe_call GPe hr (by rfl) T.gPe kPe bPe .nil pass0 (pa_cons (pv 2) (pa_cons (pe_call GS hr (by rfl) T.gS kS bS .nil pass0 (pa_cons (pv 2) pa_nil)) pa_nil))))
        (pss_cons (ps_set (i := 5) scLaw.nd rfl (.inl rfl) (pe_call GHa (hr.mono (by decide)) (by rfl) T.gHa kHa bHa .nil pass0 (pa_cons (pv 4) pa_nil)))
        (pss_cons (ps_if (PW.pt (pw_or (pt_cmpR op_ne (pe_callB (call_reprD gd hr.units) (by rfl) T.rp (by decide +kernel) (pa_cons (pe_call GB (hr.mono (by decide)) (by rfl) T.gB kB bB .nil pass0 (pa_cons (pv 4) pa_nil)) pa_nil))
              (pe_callB (call_reprD gd hr.units) (by rfl) T.rp (by decide +kernel) (pa_cons (pv 5) pa_nil)) (nomark _))
            (pw_or1 (pt_cmpR op_ne (pe_callB (call_reprD gd hr.units) (by rfl) T.rp (by decide +kernel) (pa_cons (pe_callK0 GB (hr.mono (by decide)) (by rfl) T.gB kB kbB pass0 (pk_cons (pv 4) pk_nil)) pa_nil))
              (pe_callB (call_reprD gd hr.units) (by rfl) T.rp (by decide +kernel) (pa_cons (pv 5) pa_nil)) (nomark _))))) (pss_one (ps_ret pe_bl)) pss_nil)
        (pss_one (ps_for PassesOwn.never rfl (pi_list (pe_call GOr (hr.mono (by decide)) (by rfl) T.gOr kOr bOr .nil pass0 (pa_cons (pv 2) (pa_cons (pv 5) pa_nil)))) (pg_name (i := 6) scLaw.nd rfl (.inl rfl))
          (pss_one (ps_if (PW.pt (pw_or (pt_cmpR op_ne (pe_callB call_reprN (by rfl) T.rp (by decide +kernel) (pa_cons (pe_call GFr (hr.mono (by decide)) (by rfl) T.gFr kFr bFr .nil pass0 (pa_cons (pv 6) pa_nil)) pa_nil))
              (pe_callB call_reprN (by rfl) T.rp (by decide +kernel) (pa_cons (pv 4) pa_nil)) (nomark _))
            (pw_or1 (pt_cmpR op_ne (pe_callB call_reprN (by rfl) T.rp (by decide +kernel) (pa_cons (pe_callK0 GFr (hr.mono (by decide)) (by rfl) T.gFr kFr kbFr pass0 (pk_cons (pv 6) pk_nil)) pa_nil))
              (pe_callB call_reprN (by rfl) T.rp (by decide +kernel) (pa_cons (pv 4) pa_nil)) (nomark _))))) (pss_one (ps_ret pe_bl)) pss_nil)))))))))))
      (pss_one (ps_ret (pe_and (pe_cmpR (op_eqD hr.units) (pe_call GB (hr.mono (by decide)) (by rfl) T.gB kB bB .nil pass0 (pa_cons pe_int pa_nil)) (pe_tup pa_nil) (nomark _))
        (pe_and (pe_cmpR op_eq (pe_call GFr (hr.mono (by decide)) (by rfl) T.gFr kFr bFr .nil pass0 (pa_cons (pe_tup pa_nil) pa_nil)) pe_int (nomark _))
        (pe_one (pe_cmpR (op_eqD hr.units) (pe_call GB (hr.mono (by decide)) (by rfl) T.gB kB bB .nil pass0 (pa_cons (pe_op op_subN (pe_op op_bit pe_int pe_int) pe_int) pa_nil)) (pe_tupRg (by rfl) (by rfl) T.tp (prg_1 (by rfl) T.rng pe_int)) (nomark _))))))), ?_⟩
    refine ⟨.ref a, rfl, a, _, rfl, .inl hS, _, _, rfl, _, _, rfl, _, rfl, ?_, ?_, for_range (lo := 0) (fun i σ H' => ∃ y1 y2 y3 y4 y5 y6, σ = [some (.ref a), y1, y2, y3, y4, y5, y6] ∧ Same H H') ⟨none, none, none, none, none, none, rfl, Same.refl H⟩ ?_ ?_⟩
    · split <;> split <;> omega
    · split <;> split <;> omega
    · rintro i σ H1 hi ⟨y1, y2, y3, y4, y5, y6, rfl, s1⟩
      have hi2 : i ≤ 100 := by
        refine Nat.le_of_lt (Nat.lt_of_lt_of_le hi ?_)
        split <;> split <;> omega
      refine ⟨.ref a, rfl, .int (0 + i), rfl, a, ns, i, by rw [Int.zero_add]; rfl, s1.seq hS, hl, hi2, fun H2 p s2 np pp => ?_⟩
      have npH : H p = none := s1.free np
      have s12 := s1.trans s2
      refine ⟨6, rfl, by decide, by decide, for_range (lo := 0) (n := 6) (fun j σ H' => ∃ y3 y4 y5 y6, σ = [some (.ref a), some (.int (0 + i)), some (.ref p), y3, y4, y5, y6] ∧ Same H H' ∧ Pot H' p (j * 100)) ⟨_, _, _, _, rfl, s12, pp⟩ ?_ ?_⟩
      · rintro j σ H3 hj ⟨y3, y4, y5, y6, rfl, s3, p3⟩
        -- one = person(pot, size(pot))
        refine ⟨.ref p, rfl, .ref p, rfl, p, j * 100, rfl, p3, by omega, fun sz H4 z1 z2 k4 p4 => ?_⟩
        refine ⟨p, sz, j * 100 + 2, rfl, z1, z2, p4, by omega, fun one H5 o1 k5 p5 => ?_⟩
        have one60 : one < 2 ^ 60 := Nat.lt_of_lt_of_le o1 (Nat.pow_le_pow_right (by decide) z2)
        have s5 : Same H H5 := same_keeps npH (same_keeps npH s3 k4) k5
        -- due = halved(one)
        refine ⟨.int one, rfl, one, rfl, one60, fun H6 d s6 nd hd => ?_⟩
        have hT : SqT K H6 d (nv (bl 60 one)) := .inl (.inl hd)
        have hD : Dp K H6 (.ref d) (.tuple (nd' (bl 60 one))) := dp_tup hT
        have hsm : ∀ n ∈ bl 60 one, n < 2 ^ 61 := fun n hn => bl_small (Nat.le_refl _) hn
        have hsh : (PyData.tuple (nd' (bl 60 one))).showable = true := nd_show _ hsm
        have hdi : (PyData.tuple (nd' (bl 60 one))).hasDict = false := nd_dict _
        have hde : (PyData.tuple (nd' (bl 60 one))).depth < 60 := Nat.lt_of_le_of_lt (nd_dep _) (by decide)
        have hle : (PyData.tuple (nd' (bl 60 one))).shown.length ≤ sizeLine := nd_len hsm (Nat.le_trans (bl_len 60 one) (by decide))
        -- if repr(bits(one)) != repr(due) or ..
        refine ⟨.int one, rfl, one, rfl, one60, fun H7 b s7 nb hb => ?_⟩
        refine ⟨b, _, rfl, dp_tup (.inl (.inl hb)), hsh, hdi, hde, hle, .ref d, rfl, d, _, rfl, dp_tup (sameT s7 hT), hsh, hdi, hde, hle, rfl, _, rfl, ?_⟩
        refine iteNS rfl ?_
        refine ⟨.int one, rfl, one, rfl, one60, fun H8 b2 s8 nb2 hb2 => ?_⟩
        have s78 := s7.trans s8
        refine ⟨b2, _, rfl, dp_tup (.inl (.inl hb2)), hsh, hdi, hde, hle, .ref d, rfl, d, _, rfl, dp_tup (sameT s78 hT), hsh, hdi, hde, hle, rfl, _, rfl, ?_⟩
        refine iteNS rfl ?_
        -- for row in orders(pot, due)
        have hd8 : H8 d = some (.tup (nv (bl 60 one))) := s78 _ _ hd
        have p8 : Pot H8 p (j * 100 + 10) := (p5.same (s6.trans s78)).up (by omega)
        have hdp : d ≠ p := fun e => by
          obtain ⟨x, y, z, hH, _⟩ := p8
          rw [e, hH] at hd8
          cases hd8
        refine ⟨.ref p, rfl, .ref d, rfl, p, d, bl 60 one, j * 100 + 10, rfl, fun H' kk => .inl (.inl (kk d _ hdp hd8)), bl_len 60 one, p8, by omega, fun H9 o ts k9 p9 no ho hts => ?_⟩
        have s9 : Same H H9 := same_keeps npH (s5.trans (s6.trans s78)) k9
        refine ⟨o, rfl, ⟨_, .inl (.inl ho)⟩, for_list (xs := ts.map V.ref) (fun r σ H' => ∃ y3 y6, σ = [some (.ref a), some (.int (0 + i)), some (.ref p), y3, some (.int one), some (.ref d), y6] ∧ H' = H9) ⟨_, _, rfl, rfl⟩ ?_ ?_ ?_⟩
        · rintro r σ H' _ ⟨_, _, _, rfl⟩
          exact .inl (.inl ho)
        · rintro r x σ H' hx ⟨y3, y6, rfl, rfl⟩
          obtain ⟨t, ht, rfl⟩ : ∃ t, t ∈ ts ∧ V.ref t = x := by
            rw [List.getElem?_map] at hx
            cases e : ts[r]? with
            | none => rw [e] at hx; cases hx
            | some z => rw [e] at hx; exact ⟨z, List.mem_of_getElem? e, Option.some.inj hx⟩
          obtain ⟨rs, hrs, hmem⟩ := hts t ht
          have efb : fb rs = one := fb_eq fun x => (hmem x).trans (bl_mem one60)
          have hk : ∀ k ∈ rs, k < 1000 := fun k hk => Nat.lt_trans (bl_lt ((hmem k).mp hk)) (by decide)
          have hlog : ((fb rs : Nat) : Int).natAbs.log2 < 1920 := by rw [efb]; exact log_small (Nat.lt_trans one60 (by decide))
          have hlog2 : (one : Int).natAbs.log2 < 1920 := log_small (Nat.lt_trans one60 (by decide))
          refine ⟨.ref t, rfl, t, rs, rfl, hrs, hk, _, rfl, hlog, .int one, rfl, _, rfl, hlog2, rfl, _, rfl, ?_⟩
          refine iteNS (by rw [efb]) ?_
          refine ⟨.ref t, rfl, t, rs, rfl, hrs, hk, _, rfl, hlog, .int one, rfl, _, rfl, hlog2, rfl, _, rfl, ?_⟩
          refine iteNS (by rw [efb]) ?_
          exact ⟨_, _, rfl, rfl⟩
        · rintro σ H' ⟨y3, y6, rfl, rfl⟩
          exact ⟨_, _, _, _, rfl, s9, p9.up (by omega)⟩
      · rintro σ H3 ⟨y3, y4, y5, y6, rfl, s3, p3⟩
        exact ⟨_, _, _, _, _, _, rfl, s3⟩
    · rintro σ H1 ⟨y1, y2, y3, y4, y5, y6, rfl, s1⟩
      have e0 : PyData.eqv (.tuple (nd' (bl 60 0))) (.tuple (nd' [])) = true := by
        rw [show bl 60 0 = [] by decide]
        exact PySem.SeqAt.eqv_refl _ (nd_can [])
      have e1 : bl 60 (2 ^ 60 - 1) = List.range 60 := by decide +kernel
      have e2 : PyData.eqv (.tuple (nd' (bl 60 (2 ^ 60 - 1)))) (.tuple (nd' (List.range 60))) = true := by
        rw [e1]
        exact PySem.SeqAt.eqv_refl _ (nd_can _)
      refine ⟨0, rfl, by decide, fun H2 b s2 nb hb => ⟨(by show 0 ≤ sizeLine; decide), fun e ne => ?_⟩⟩
      refine ⟨_, _, dp_tup (.inl (.inl (by rw [upd_ne (ne_of_none hb ne)]; exact hb))), dp_tup (ns := []) (.inl (.inl upd_same)), nd_shaped _, nd_shaped _, _, rfl, ite2 (fun _ => ?_) (fun n => absurd e0 n)⟩
      refine ⟨(by show 0 ≤ sizeLine; decide), fun e3 ne3 => ?_⟩
      refine ⟨e3, [], rfl, .inl (.inl upd_same), fun _ h => absurd h List.not_mem_nil, rfl, _, rfl, ite2 (fun _ => ?_) (fun n => absurd (by decide) n)⟩
      refine ⟨60, rfl, rfl, by decide, 2 ^ 60, 1, rfl, rfl, by decide, 2 ^ 60 - 1, rfl, by decide, fun H4 b4 s4 nb4 hb4 => ?_⟩
      refine ⟨_, rfl, (show RgOk 0 60 from RgOk.of_le (by decide) (by decide) (by decide) (by decide)), fun t nt => ?_⟩
      refine ⟨_, _, dp_tup (.inl (.inl (by rw [upd_ne (ne_of_none hb4 nt)]; exact hb4))), dp_tup (ns := List.range 60) (.inl (.inl ?_)), nd_shaped _, nd_shaped _, ?_⟩
      · rw [upd_same]
        exact congrArg (fun z => some (HO.tup z)) (show rgV 0 60 = nv (List.range 60) by decide +kernel)
      · show Q (.bl (PyData.eqv _ _)) _
        rw [e2]
        exact q _
end
end Bf
namespace Bf
open PySem PySem.Spec PyProof.Rows L2
/-- where a def of the top stands -/
structure DefAt (K : PySem.W.Frag) (x : Str) (st : Stmt) (f : Addr) : Prop where
  at_ : PySem.W.nsIn K mainGlobals x = some (some (.ref f))
  fn : ∃ fd, Fun K x x st f fd
theorem mkD {K : PySem.W.Frag} {x : Str} {st : Stmt} {f : Addr} {oc kV doc pm cdv ct : Value} {od an : Option Addr} {osl : Array (Option Value)} (a : PySem.W.nsIn K mainGlobals x = some (some (.ref f)))
    (l : K.lookup f = some ⟨oc, od, .func (PySem.W.fnOf x x (defArgs st) (defBody st) (defScope st) .none kV doc pm an cdv ct), osl⟩) (c : PySem.W.codeIn K cdv x = true) (k : PySem.W.keepIn K (.ref f) = true) : DefAt K x st f := ⟨a, _, fun_mk (st := st) l c k⟩
theorem all_mk {l : PySem.W.OpenLaw} {w : World} {K : PySem.W.Frag} {h : Heap} {mg : Str → Option Value} {fa f0 f1 f2 f3 f4 f5 f6 f7 f8 f9 f10 f11 : Addr} (X : K.In h) (G : h.Ns mainGlobals mg) (hfa : mg "law" = some (.ref fa))
    (d0 : DefAt K "bits" sBits f0)
    (d1 : DefAt K "has_bit" sHas f1)
    (d2 : DefAt K "from_bits" sFrom f2)
    (d3 : DefAt K "_law_pot" sPot f3)
    (d4 : DefAt K "_law_take" sTake f4)
    (d5 : DefAt K "_law_of" sOf f5)
    (d6 : DefAt K "_law_far" sFar f6)
    (d7 : DefAt K "_law_size" sSize f7)
    (d8 : DefAt K "_law_person" sPerson f8)
    (d9 : DefAt K "_law_halved" sHalved f9)
    (d10 : DefAt K "_law_orders" sOrders f10)
    (d11 : DefAt K "law" sLaw f11)
    (z0 : PySem.W.nsIn K mainGlobals "len" = some none)
    (z1 : PySem.W.nsIn K mainGlobals "abs" = some none)
    (z2 : PySem.W.nsIn K mainGlobals "range" = some none)
    (z3 : PySem.W.nsIn K mainGlobals "max" = some none)
    (z4 : PySem.W.nsIn K mainGlobals "min" = some none)
    (z5 : PySem.W.nsIn K mainGlobals "repr" = some none)
    (z6 : PySem.W.nsIn K mainGlobals "tuple" = some none)
    : ∃ fd : FuncData, (∀ (s : Shared) (v : Value), BindsTo s fd ⟨[v], []⟩ [("_law_script", v)]) ∧ ∀ base : Heap, K.In base → base.Ns mainGlobals mg → FnG l.prog w K mg base 4 fa fd ["_law_script"] (spLaw K) := by
  obtain ⟨a0, e0, F0⟩ := d0
  obtain ⟨a1, e1, F1⟩ := d1
  obtain ⟨a2, e2, F2⟩ := d2
  obtain ⟨a3, e3, F3⟩ := d3
  obtain ⟨a4, e4, F4⟩ := d4
  obtain ⟨a5, e5, F5⟩ := d5
  obtain ⟨a6, e6, F6⟩ := d6
  obtain ⟨a7, e7, F7⟩ := d7
  obtain ⟨a8, e8, F8⟩ := d8
  obtain ⟨a9, e9, F9⟩ := d9
  obtain ⟨a10, e10, F10⟩ := d10
  obtain ⟨a11, e11, F11⟩ := d11
  have e := hfa.symm.trans (PySem.W.mg_of X G a11)
  cases e
  have b0 := F0.binds (ps := ["hand"]) fun _ _ _ _ _ _ us hl => match us, hl with | [_], _ => rfl
  have g0 := PySem.W.mg_of X G a0
  have b1 := F1.binds (ps := ["hand", "k"]) fun _ _ _ _ _ _ us hl => match us, hl with | [_, _], _ => rfl
  have g1 := PySem.W.mg_of X G a1
  have b2 := F2.binds (ps := ["some"]) fun _ _ _ _ _ _ us hl => match us, hl with | [_], _ => rfl
  have g2 := PySem.W.mg_of X G a2
  have b3 := F3.binds (ps := ["_law_script", "_law_k"]) fun _ _ _ _ _ _ us hl => match us, hl with | [_, _], _ => rfl
  have g3 := PySem.W.mg_of X G a3
  have b4 := F4.binds (ps := ["_law_pot_here", "_law_size_here"]) fun _ _ _ _ _ _ us hl => match us, hl with | [_, _], _ => rfl
  have g4 := PySem.W.mg_of X G a4
  have b5 := F5.binds (ps := ["_law_pot_here", "_law_menu"]) fun _ _ _ _ _ _ us hl => match us, hl with | [_, _], _ => rfl
  have g5 := PySem.W.mg_of X G a5
  have b6 := F6.binds (ps := ["_law_pot_here", "_law_size_here"]) fun _ _ _ _ _ _ us hl => match us, hl with | [_, _], _ => rfl
  have g6 := PySem.W.mg_of X G a6
  have b7 := F7.binds (ps := ["_law_pot_here"]) fun _ _ _ _ _ _ us hl => match us, hl with | [_], _ => rfl
  have g7 := PySem.W.mg_of X G a7
  have b8 := F8.binds (ps := ["_law_pot_here", "_law_size_here"]) fun _ _ _ _ _ _ us hl => match us, hl with | [_, _], _ => rfl
  have g8 := PySem.W.mg_of X G a8
  have b9 := F9.binds (ps := ["_law_one"]) fun _ _ _ _ _ _ us hl => match us, hl with | [_], _ => rfl
  have g9 := PySem.W.mg_of X G a9
  have b10 := F10.binds (ps := ["_law_pot_here", "_law_row"]) fun _ _ _ _ _ _ us hl => match us, hl with | [_, _], _ => rfl
  have g10 := PySem.W.mg_of X G a10
  have m0 := PySem.W.mg_none_of X G z0
  have m1 := PySem.W.mg_none_of X G z1
  have m2 := PySem.W.mg_none_of X G z2
  have m3 := PySem.W.mg_none_of X G z3
  have m4 := PySem.W.mg_none_of X G z4
  have m5 := PySem.W.mg_none_of X G z5
  have m6 := PySem.W.mg_none_of X G z6
  have kb0 : KBinds K e0 ["hand"] ["hand"] (fun us ws => us ++ ws) (fun vs zs => vs ++ zs) := kb1 F0 (fun _ _ _ _ _ _ _ => rfl) fun _ _ _ _ _ _ _ => rfl
  have kb2 : KBinds K e2 ["some"] ["some"] (fun us ws => us ++ ws) (fun vs zs => vs ++ zs) := kb1 F2 (fun _ _ _ _ _ _ _ => rfl) fun _ _ _ _ _ _ _ => rfl
  refine ⟨e11, fun s v => ?_, fun base _ _ => ?_⟩
  · obtain ⟨oc, od, kV, doc, pm, an, cdv, ct, osl, rfl, lk, hcd⟩ := F11.ex
    exact .of_eq rfl
  · have GH : FnOk l.prog w K mg base CX0 1 _ _ _ _ := ok_has F1
    have GB : FnOk l.prog w K mg base CX0 2 _ _ _ _ := ok_bits F0 GH F1.kp b1 g1 m6 m2
    have GFr : FnOk l.prog w K mg base CX0 1 _ _ _ _ := ok_from F2
    have GP : FnOk l.prog w K mg base CX0 1 _ _ _ _ := ok_pot F3 m0 m1
    have GT : FnOk l.prog w K mg base CX0 1 _ _ _ _ := ok_take F4
    have GO : FnOk l.prog w K mg base CX0 2 _ _ _ _ := ok_of F5 GT F4.kp b4 g4 m0
    have GF : FnOk l.prog w K mg base CX0 2 _ _ _ _ := ok_far F6 GT F4.kp b4 g4
    have GS : FnOk l.prog w K mg base CX0 3 _ _ _ _ := ok_size F7 GT F4.kp b4 g4 GO F5.kp b5 g5
    have GPe : FnOk l.prog w K mg base CX0 3 _ _ _ _ := ok_person F8 GT F4.kp b4 g4 GO F5.kp b5 g5 GF F6.kp b6 g6
    have GHa : FnOk l.prog w K mg base CX0 1 _ _ _ _ := ok_halved F9 m6
    have GOr : FnOk l.prog w K mg base CX0 2 _ _ _ _ := ok_orders F10 GT F4.kp b4 g4 m0 m6
    exact ok_law F11 (fT := f4) ⟨g0, g2, g3, g7, g8, g9, g10, m0, m2, m3, m4, m5, m6⟩ GB F0.kp b0 kb0 GFr F2.kp b2 kb2 GP F3.kp b3 GS F7.kp b7 GPe F8.kp b8 GHa F9.kp b9 GOr F10.kp b10
end Bf
open PySem PySem.W PyProof.Rows
set_option maxHeartbeats 0 in
theorem PySem.Challenge.cw_beatferry_k01_bits_and_back_holds : PySem.Challenge.rw_beatferry_k01_bits_and_back.Holds := by
  w_on; o_law; k_head; (case hw => w_witness2)
  k_fill
  refine Bf.walkG (l := PySem.Challenge.rw_beatferry_k01_bits_and_back) (n := 63) (k := 4) (x := "_law_script") (sp := Bf.spLaw) rfl (by decide) rfl ⟨rfl, by decide, by decide⟩ (fun w h Y => PySem.W.kIn_of Y) ?F (fun _ _ a ns hl hS => ⟨a, ns, rfl, hS, hl, fun _ => rfl⟩)
  case F =>
    intro w mg fa h KX G hmg
    refine' Bf.all_mk KX G hmg (Bf.mkD ?a0 ?l0 ?c0 ?k0) (Bf.mkD ?a1 ?l1 ?c1 ?k1) (Bf.mkD ?a2 ?l2 ?c2 ?k2) (Bf.mkD ?a3 ?l3 ?c3 ?k3) (Bf.mkD ?a4 ?l4 ?c4 ?k4) (Bf.mkD ?a5 ?l5 ?c5 ?k5) (Bf.mkD ?a6 ?l6 ?c6 ?k6) (Bf.mkD ?a7 ?l7 ?c7 ?k7) (Bf.mkD ?a8 ?l8 ?c8 ?k8) (Bf.mkD ?a9 ?l9 ?c9 ?k9) (Bf.mkD ?a10 ?l10 ?c10 ?k10) (Bf.mkD ?a11 ?l11 ?c11 ?k11) ?z0 ?z1 ?z2 ?z3 ?z4 ?z5 ?z6
    (case a0 => k_is); (case l0 => k_is); (case c0 => k_is); (case k0 => k_is); (case a1 => k_is); (case l1 => k_is); (case c1 => k_is); (case k1 => k_is); (case a2 => k_is); (case l2 => k_is); (case c2 => k_is); (case k2 => k_is); (case a3 => k_is); (case l3 => k_is); (case c3 => k_is); (case k3 => k_is); (case a4 => k_is); (case l4 => k_is); (case c4 => k_is); (case k4 => k_is); (case a5 => k_is); (case l5 => k_is); (case c5 => k_is); (case k5 => k_is); (case a6 => k_is); (case l6 => k_is); (case c6 => k_is); (case k6 => k_is); (case a7 => k_is); (case l7 => k_is); (case c7 => k_is); (case k7 => k_is); (case a8 => k_is); (case l8 => k_is); (case c8 => k_is); (case k8 => k_is); (case a9 => k_is); (case l9 => k_is); (case c9 => k_is); (case k9 => k_is); (case a10 => k_is); (case l10 => k_is); (case c10 => k_is); (case k10 => k_is); (case a11 => k_is); (case l11 => k_is); (case c11 => k_is); (case k11 => k_is); (case z0 => k_is); (case z1 => k_is); (case z2 => k_is); (case z3 => k_is); (case z4 => k_is); (case z5 => k_is); (case z6 => k_is)
