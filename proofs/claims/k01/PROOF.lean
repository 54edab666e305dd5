import PyProof.Rows.All
import Wide.All
import OpenK.AllK
import Wide.FinOn
import HandS.ForMost
import HandS.More
import HandS.Wide
import HandS.WideBits
import HandS.TupAny
import HandS.TupMul
import HandS.Style
import HandS.RaiseMore
import HandS.Conv
import PySem.Challenge.RW_beatferry_k01_bits_and_back
set_option Elab.async false
set_option linter.all false
set_option maxRecDepth 100000
set_option maxHeartbeats 4000000
namespace Bf
open PySem PySem.Spec PyProof.Rows L2

/-! ### defs whose calls stand under no repr -/
structure FnG (P : Program) (w : World) (K : PySem.W.Frag) (mg : Str → Option Value) (base : Heap) (k : Nat) (f : Addr) (fd : FuncData) (ps : List Str) (sp : Sp) : Prop where
  len : ∀ vs H Q E, sp vs H Q E → vs.length = ps.length
  go : ∀ (A : Around) (outer : List Env) (s : Shared) (H : Hp) (args : Args) (us : List Value) (vs : List V) (Q : VK) (E : XK), A.guards = some [] → Room k A →
    Env0 P w K mg base A outer s H → BindsTo s fd args (ps.zip us) → Vals vs us → sp vs H Q E → codeAny (model P w) A (.call (.ref f) args) (CR CX0 outer P w H s Q E) s

theorem fnG_of {P : Program} {w : World} {K : PySem.W.Frag} {mg : Str → Option Value} {base : Heap} {x qual : Str} {st : Stmt} {f : Addr} {fd : FuncData} {N ps : List Str} {k : Nat} {sp : Sp}
    (F : Fun K x qual st f fd) (S : FnScope N ps (defScope st)) (len : ∀ vs H Q E, sp vs H Q E → vs.length = ps.length)
    (body : ∀ (cdv : Value) (A : Around) (outer : List Env) (s : Shared) (H : Hp) (vs : List V) (Q : VK) (E : XK), (A.deeper (envOfC qual (defScope st) s.heap.objs.size f cdv)).guards = some [] →
      Room k (A.deeper (envOfC qual (defScope st) s.heap.objs.size f cdv)) → sp vs H Q E →
      ∃ t, PSs (cxOf CX0 P w K mg base N qual (defScope st) f cdv A outer s H E).nox (defBody st) t ∧ t { nx := fun _ H' => Q .non H', rt := Q } (start N vs) H) : FnG P w K mg base (k + 1) f fd ps sp := by
  obtain ⟨oc, od, kV, doc, pm, an, cdv, ct, osl, rfl, lk, hcd⟩ := F.ex
  refine ⟨len, fun B out s G args us vs Q E gd rm en hb rl hs => ?_⟩
  have ln := len _ _ _ _ hs
  have kx : K.In s.heap := en.mod.kin.keeps fun b o e => (en.bs b o e).1
  have nl : s.heap.NoLimit := en.mod.nolimit.keeps fun b o e => (en.bs b o e).1
  have kinds : ∀ y ∈ ps.zip us, (defScope st).names.lookup y.1 = some .local ∨
      ((defScope st).names.lookup y.1 = some .cell ∧ ((cellsFrom (s.heap.objs.size + 1) (defScope st).names []).lookup y.1).isSome = true) := fun ⟨n, v⟩ hy =>
    (S.par n (List.of_mem_zip hy).1).elim (fun q => .inl q) fun q => .inr ⟨q, PySem.W.cellsFrom_some _ _ _ (.inl q)⟩
  refine codeAny_call_function rm.depth (kx _ _ lk) rfl S.co S.gen rfl (PySem.W.codeRec_of kx hcd) (hb _ _ _ _ ?_)
  refine wpAny_newFunctionEnv_cells S.kind kinds fun env he s1 x1 => ?_
  subst he
  refine ⟨nl.keeps x1.toInCall.keep, codeAny_func ?_⟩
  obtain ⟨t, ht, hq⟩ := body cdv B out s G vs Q E gd (rm.deeper _) hs
  have J0 : Inv (cxOf CX0 P w K mg base N qual (defScope st) f cdv B out s G E) [] (start N vs) G s1 := inv_start S rm.hd en ln rl x1
  refine wpAny_mono (ht.nox.run [] s1 (start N vs) G _ J0 hq) (fun fl s' hs' => ?_) fun e s' hs' => hs'
  cases fl with
  | ret u => exact let ⟨v, _, H', J, rv, q⟩ := hs'; ⟨v, H', J.os, J.bare, J.base, J.hok, rv, q⟩
  | next => exact let ⟨_, H', J, q⟩ := hs'; ⟨V.non, H', J.os, J.bare, J.base, J.hok, rfl, q⟩
  | brk => exact let ⟨_, _, _, q⟩ := hs'; False.elim q
  | cont => exact let ⟨_, _, _, q⟩ := hs'; False.elim q

section
variable {X : Cx} {x : Str} {p pos : Pos} {e : Expr} {es : List Expr} {t : TA} {k : Nat} {f : Addr} {fd : FuncData} {ps : List Str} {sp : Sp} {ds : List Value} {dvs : List V} {E : XK}
theorem runG {pins : List (Addr × Obj)} {σ : L2.St} {H : Hp} {s : Shared} {Q : VK} {us : List Value} {vs : List V} (F : FnG X.prog X.w X.K X.mg X.base k f fd ps sp) (gd : X.A.guards = some []) (hr : Room k X.A) (hb : Binds X.K fd ps ds) (hd : Vals dvs ds)
    (I : Inv X pins σ H s) (r : Vals vs us) (h : sp (vs ++ dvs) H Q E) : wpAny (model X.prog X.w) X.A (call (.ref f) us) (EP X pins σ Q) X.xe s := by
  have rr : Vals (vs ++ dvs) (us ++ ds) := r.append hd
  have ll : (us ++ ds).length = ps.length := rr.length.symm.trans (F.len _ _ _ _ h)
  refine wpAny_call (codeAny_mono (F.go X.A X.stack s H ⟨us, []⟩ (us ++ ds) (vs ++ dvs) Q E gd hr I.env0 (hb s us I.kIn ll) rr h) fun z s' hq => ?_)
  match z, hq with
  | .error _, hq => exact hq.elim
  | .ok (.ret _), hq => exact I.after hq
  | .ok .next, hq => exact False.elim hq
  | .ok .brk, hq => exact False.elim hq
  | .ok .cont, hq => exact False.elim hq
theorem pe_callG (F : FnG X.prog X.w X.K X.mg X.base k f fd ps sp) (gd : X.A.guards = some []) (hr : Room k X.A) (hg : Gl X x) (hm : X.mg x = some (.ref f)) (hk : PySem.W.keepIn X.K (.ref f) = true) (hb : Binds X.K fd ps ds) (hd : Vals dvs ds)
    (ha : PA X (e :: es) t) (hdb : (x == ("__debug__" : Str)) = false := by decide) (he : starEach (e :: es) X.env = (false, eval e X.env) :: starEach es X.env := by rfl) (hpl : (backTo pos (starEach es X.env)).any (·.1) = false := by rfl) :
    PE X (.Call (.Name x p) (e :: es) [] pos) (tCall sp dvs E t) :=
  ⟨fun pins s σ H Q I h => wpAny_Call_Name_kw (ld_glob I hg hm (PySem.W.callWith_K (h₀ := X.base) I.ok.mod.kin hk
    (thn (ha.run pos pins s σ H _ I h) fun us s1 ⟨vs, H1, I1, r, q⟩ => ⟨I1.kIn, runG F gd hr hb hd I1 r q⟩) he hpl) hdb)⟩

/-! ### repr of data -/
theorem call_reprD (gd : X.A.guards = some []) (hu : X.A.units + 64 < cLine) : CallR X (.builtin "repr") (fun xs H Q => ∃ a d, xs = [.ref a] ∧ Dp X.K H (.ref a) d ∧ d.showable = true ∧ d.hasDict = false ∧ d.depth < 60 ∧ d.shown.length ≤ sizeLine ∧ Q (.str d.shown) H) := by
  intro pins s σ H xs us Q I r h
  obtain ⟨a, d, rfl, hd, h1, h2, h3, h4, q⟩ := h
  obtain ⟨u, rfl, ru⟩ := vals1 r
  obtain ⟨as, rd⟩ := Dp.reads I d _ u hd ru
  cases ru
  refine repr_of_reads' rd h1 (PyData.noDict_hsm h2) gd (by omega) (fun _ _ z => z) (fun h' u tk hk => ?_) h4
  exact ⟨.str d.shown, H, I.kept hk, ⟨u, rfl⟩, q⟩
theorem call_reprN : CallR X (.builtin "repr") (fun xs H Q => ∃ i, xs = [.int i] ∧ i.natAbs.log2 < 1920 ∧ Q (.str (toString i)) H) := by
  intro pins s σ H xs us Q I r h
  obtain ⟨i, rfl, hz, q⟩ := h
  obtain ⟨u, rfl, t, rfl⟩ := vals1 r
  exact PySem.P.repr_of_int hz ⟨.str (toString i), H, I.tok _, ⟨_, rfl⟩, q⟩

/-! ### calls by names alone -/
theorem pe_callK0 {CX : CXT} {kws : List Keyword} {tk : TA} {ks : List Str} {g : List Value → List Value → List Value} {gV : List V → List V → List V} (F : FnOk X.prog X.w X.K X.mg X.base CX k f fd ps sp) (hr : Room k X.A) (hg : Gl X x)
    (hm : X.mg x = some (.ref f)) (hk : PySem.W.keepIn X.K (.ref f) = true) (hb : KBinds X.K fd ps ks g gV) (hx : Passes CX X E) (hkw : PK X kws tk)
    (hall : (backToKw pos (keywordEach kws X.env)).all (·.1.isSome) = true := by rfl) (hks : (backToKw pos (keywordEach kws X.env)).filterMap (·.1) = ks := by rfl) (hdb : (x == ("__debug__" : Str)) = false := by decide)
    (hpl : ((backTo pos (starEach [] X.env)).any (·.1) || (backToKw pos (keywordEach kws X.env)).any (·.1.isNone)) = false := by rfl) : PE X (.Call (.Name x p) [] kws pos) (tCallK sp gV E tNil tk) := by
  refine ⟨fun pins s σ H Q I h => wpAny_Call_Name_kw (ld_glob I hg hm (PySem.W.callWith_KW0 (h₀ := X.base) I.ok.mod.kin hk hall ?_ hpl) hdb)⟩
  refine thn (hkw.run pos pins s σ H _ I h) fun ws s2 ⟨zs, H2, I2, rz, q2⟩ => ⟨I2.kIn, ?_⟩
  rw [hks]
  exact run_fnk F hr hb hx I2 .nil rz q2

/-! ### t[::-1], t a tuple -/
end
section
variable {prog : Program} {w : World} {A : Around} {E : Value → Shared → Prop} {s : Shared}
theorem back_adjust (n : Nat) : Builtin.Slice.sliceAdjust none none (-1) (n : Int) = ((n : Int) - 1, -1) := by
  unfold Builtin.Slice.sliceAdjust
  rfl
theorem back_places (n : Nat) : Builtin.Slice.slicePlaces ((n : Int) - 1) (-1) (-1) = n := by
  unfold Builtin.Slice.slicePlaces
  have h1 : ¬ ((-1 : Int) > 0) := by omega
  simp only [h1, if_false, Int.neg_neg, Int.ediv_one]
  split <;> omega
theorem back_pick (xs : Array Value) : ((List.range xs.size).filterMap fun (k : Nat) => xs[((xs.size : Int) - 1 + (k : Int) * (-1)).toNat]?).toArray = xs.toList.reverse.toArray := by
  have e : ((List.range xs.size).filterMap fun (k : Nat) => xs[((xs.size : Int) - 1 + (k : Int) * (-1)).toNat]?) = ((List.range xs.size).map fun k => xs.size - 1 - k).filterMap (xs[·]?) := by
    rw [List.filterMap_map]
    have h : ∀ l : List Nat, l.filterMap (fun (k : Nat) => xs[((xs.size : Int) - 1 + (k : Int) * (-1)).toNat]?) = l.filterMap ((fun x => xs[x]?) ∘ fun k => xs.size - 1 - k) := by
      intro l
      induction l with
      | nil => rfl
      | cons k l ih =>
        have ek : ((xs.size : Int) - 1 + (k : Int) * (-1)).toNat = xs.size - 1 - k := by omega
        simp only [List.filterMap_cons, ih, Function.comp, ek]
    exact h _
  rw [e, PySem.W.krv_range, List.filterMap_reverse, PySem.W.krv_all]
theorem back_applied {sl : Addr} {vl vu vs : Value} {n : Nat} {Q : Int × Int × Nat → Shared → Prop} (hs : s.heap.IsSliceOf sl vl vu vs) (pl : IsPart vl none) (pu : IsPart vu none) (pk : IsPart vs (some (-1)))
    (h : Q ((n : Int) - 1, -1, n) s) : wpAny (model prog w) A (Builtin.Slice.sliceApplied (.ref sl) (pure (n : Int))) Q E s := by
  obtain ⟨os, ho, _, hd⟩ := id hs
  unfold Builtin.Slice.sliceApplied Builtin.Slice.sliceFields
  refine wpAny_bind (wpAny_bind (wpAny_field ho hd (x := vl) rfl (wpAny_bind (wpAny_field ho hd (x := vu) rfl (wpAny_bind (wpAny_field ho hd (x := vs) rfl (wpAny_pure ?_)))))))
  refine wpAny_bind (HT.slicePart_ pk ?_)
  show wpAny _ _ (if ((-1 : Int) == 0) = true then _ else _) _ _ s
  rw [if_neg (by decide)]
  refine wpAny_bind (HT.slicePart_ pl (wpAny_bind (HT.slicePart_ pu (wpAny_bind (wpAny_pure ?_)))))
  show wpAny _ _ (match Builtin.Slice.sliceAdjust none none (-1) (n : Int) with | (lo, hi) => pure (lo, (-1 : Int), Builtin.Slice.slicePlaces lo hi (-1))) _ _ s
  rw [back_adjust n]
  show wpAny _ _ (pure ((n : Int) - 1, (-1 : Int), Builtin.Slice.slicePlaces ((n : Int) - 1) (-1) (-1))) _ _ s
  rw [back_places]
  exact wpAny_pure h
theorem getItem_tuple_back {t sl : Addr} {items : Array Value} {vl vu vs : Value} {Q : Value → Shared → Prop} (ht : IsTup s.heap t items) (hs : s.heap.IsSliceOf sl vl vu vs) (pl : IsPart vl none) (pu : IsPart vu none) (pk : IsPart vs (some (-1)))
    (h : Q (.ref s.heap.objs.size) { s with heap := s.heap.push { cls := .type "tuple", data := .seq items.toList.reverse.toArray } }) (hsz : items.size ≤ sizeLine) : wpAny (model prog w) A (getItem (.ref t) (.ref sl)) Q E s := by
  have hz : sizeOk (.seq items.toList.reverse.toArray) := by
    show items.toList.reverse.toArray.size ≤ sizeLine
    rw [List.size_toArray, List.length_reverse, Array.length_toList]
    exact hsz
  obtain ⟨os, ho, hcs, _⟩ := id hs
  have hT : s.TypeIs (.ref sl) "slice" := ⟨os, ho, hcs⟩
  unfold getItem
  try with_reducible refine wpAny_holding ?_
  first | refine wpAny_bind (wpAny_pure ?_) | skip
  refine wpAny_bind (wpAny_sequenceKey ht.typeIs (by decide) ?_)
  refine wpAny_bind (wpAny_callSpecial?_slot (name := Str.ofString "__getitem__") ht.typeIs PyProof.Rows.slot_tuple_getitem (wpAny_call_entry PyProof.Rows.slot_tuple_getitem ht.typeIs entry_tuple_getitem ?_ (args_tuple_getitem _ _)))
  show wpAny _ _ (Builtin.Tuple.tupleItemsOf (.ref t) >>= _) _ _ s
  refine wpAny_bind (tupleItemsOf_ ht ?_)
  refine wpAny_bind (wpAny_typeOf hT ?_)
  rw [if_pos (by decide)]
  refine wpAny_bind (back_applied hs pl pu pk ?_)
  have hno : ¬ ((((items.size : Int) - 1) == 0 && (-1 : Int) == 1 && items.size == items.size) = true) := by
    intro q
    rw [Bool.and_eq_true, Bool.and_eq_true] at q
    exact absurd (eq_of_beq q.1.2) (by decide)
  show wpAny _ _ (if (((items.size : Int) - 1) == 0 && (-1 : Int) == 1 && items.size == items.size) = true then _ else _) _ _ s
  rw [if_neg hno, back_pick]
  first
    | exact wpAny_bind (m := Builtin.Tuple.tupleExact _) (wpAny_newObj_type (wpAny_pure ⟨_, rfl, wpAny_pure h⟩) hz)
    | exact wpAny_bind (m := Builtin.Tuple.tupleExact _) (wpAny_newObj_type (wpAny_bind (wpAny_pure (wpAny_pure ⟨_, rfl, wpAny_pure h⟩))) hz)
    | exact wpAny_bind (wpAny_bind (m := Builtin.Tuple.tupleExact _) (wpAny_newObj_type (wpAny_pure (wpAny_pure ⟨_, rfl, wpAny_pure h⟩)) hz))
    | exact wpAny_bind (wpAny_bind (m := Builtin.Tuple.tupleExact _) (wpAny_newObj_type (wpAny_pure ⟨_, rfl, wpAny_pure h⟩) hz))
end
section
variable {X : Cx} {x : Str} {p pos : Pos} {e : Expr} {es : List Expr} {t : TA} {k : Nat} {f : Addr} {fd : FuncData} {ps : List Str} {sp : Sp} {ds : List Value} {dvs : List V} {E : XK}
def tRevT (K : PySem.W.Frag) (te : TE) : TE := fun σ H Q => te σ H fun x H1 => ∃ a xs, x = .ref a ∧ SqT K H1 a xs ∧ ∀ p, H1 p = none → Q (.ref p) (upd H1 p (.tup xs.reverse))
theorem pe_revT {te : TE} {k : Nat} {p1 p2 p3 : Pos} (he : PE X e te) : PE X (.Subscript e (.Slice none none (some (.UnaryOp .USub (.Constant (.int 1) k p1) p2)) p3) pos) (tRevT X.K te) := by
  refine ⟨fun pins s σ H Q I h => Subscript_ (thn (he.run pins s σ H _ I h) fun v s1 ⟨y, H1, I1, r1, a, xs, ey, hx, q⟩ => ?_)⟩
  subst ey
  cases r1
  have hst : PO X (some (.UnaryOp .USub (.Constant (.int 1) k p1) p2)) (tPart (tUn (rU fun i => .int (-i)) (tC (.int 1)))) := po_some (pe_un un_neg pe_int)
  refine wpAny_Slice (thn (po_none.run pins s1 σ H1 (fun o H2 => o = none ∧ H2 = H1) I1 ⟨rfl, rfl⟩) fun vl s2 ⟨l, H2, I2, pl, el, e2⟩ => ?_)
  subst el e2
  refine thn (po_none.run pins s2 σ H2 (fun o H3 => o = none ∧ H3 = H2) I2 ⟨rfl, rfl⟩) fun vu s3 ⟨u, H3, I3, pu, eu, e3⟩ => ?_
  subst eu e3
  refine thn (hst.run pins s3 σ H3 (fun o H4 => o = some (-1) ∧ H4 = H3) I3 ⟨1, rfl, -1, rfl, rfl, rfl⟩) fun vs s4 ⟨o, H4, I4, pk, eo, e4⟩ => ?_
  subst eo e4
  have J : Inv X pins σ H4 { s4 with heap := s4.heap.push { cls := .type "slice", data := .fields #[vl, vu, vs] } } := I4.kept (t' := s4.toks) fun b ob q => Heap.get?_push_of_some _ q
  obtain ⟨its, r, ht, hz⟩ := J.tuple hx
  show wpAny (model X.prog X.w) X.A (subscriptTail e (.Slice none none (some (.UnaryOp .USub (.Constant (.int 1) k p1) p2)) p3) (.ref a) (.ref s4.heap.objs.size)) (EP X pins σ Q) X.xe { s4 with heap := s4.heap.push { cls := .type "slice", data := .fields #[vl, vu, vs] } }
  refine tail_any (ops := [.ref a, .ref s4.heap.objs.size]) ht.typeIs (PyProof.Rows.slot_tuple_getitem.lookup) ?_ (by with_unfolding_all rfl)
  refine getItem_tuple_back ht (Heap.IsSliceOf.new _ vl vu vs) pl pu pk ?_ (by rw [List.size_toArray, ← r.length]; exact hz)
  refine ⟨.ref _, _, J.laid (t' := s4.toks) (o := .tup xs.reverse) (fun b ob q => Heap.get?_push_of_some _ q) (Nat.le_refl _) ?_, rfl, q _ (J.hok.fresh (Nat.le_refl _))⟩
  exact ⟨by rw [List.length_reverse]; exact hz, its.reverse, r.reverse, IsTup.new _ _⟩

/-! ### t * k, whatever t is -/
def rRepA (K : PySem.W.Frag) : R2 := fun x y H Q => ∃ l k xs, x = .ref l ∧ y = .int k ∧ SqT K H l xs ∧ 2 ≤ k ∧ k ≤ 1000 ∧ xs.length ≤ 1000 ∧
  (xs = [] → Q (.ref l) H) ∧ (xs ≠ [] → ∀ p, H p = none → Q (.ref p) (upd H p (.tup (List.replicate k.toNat xs).flatten)))
theorem tuple_mul0 (l : Addr) (items : Array Value) (n : Nat) (dd : Option Addr) (sl : Array (Option Value)) (x : Int) (u : Tok) (c0 : (decide (x < -(2 ^ 63)) || decide (x ≥ 2 ^ 63)) = false) (c1 : (items.isEmpty || x == 1) = true) :
    Meets (Builtin.«tuple.__mul__» ⟨[.ref l, .int x u], []⟩) (fun _ R s => s.heap.get? l = some { cls := .type "tuple", dict := dd, data := .seq items n, slots := sl } ∧ R (.ok (.ret (Value.ref l))) s) :=
  .of_wp fun prog w A R s h => by
    obtain ⟨hp, g, d, tk, os⟩ := s
    obtain ⟨hl, h⟩ := h
    have f1 := AutoSeq1.idx_int
    wp_walk using wpAny_loadPart' hl
    repeat (first
      | (refine wpAny_ite_false (decide_eq_false (by rw [c0]; exact Bool.false_ne_true)) ?_; wp_walk using wpAny_loadPart' hl)
      | (refine wpAny_ite_true (decide_eq_true c1) ?_; wp_walk using wpAny_loadPart' hl))
    exact ⟨_, rfl, h⟩
theorem op_repA : OpR X (binaryOp .Mult) (rRepA X.K) := by
  intro pins s σ H x y v u Q I rx ry h
  obtain ⟨l, k, xs, rfl, rfl, hT, h1, h2, hz, q0, q1⟩ := h
  by_cases hx : xs = []
  · subst hx
    cases rx
    obtain ⟨t, rfl⟩ := ry
    obtain ⟨its, r, ⟨⟨cls, dd, data, sl⟩, ho, hc, n, hd⟩, hs⟩ := I.tuple hT
    simp only at hc hd
    subst hc hd
    cases r
    have c0 : (decide (k < -(2 ^ 63)) || decide (k ≥ 2 ^ 63)) = false := by
      rw [decide_eq_false (by omega), decide_eq_false (by omega)] <;> rfl
    exact wpAny_binaryOp_repeat_ref (T := "tuple") (U := "int") (by decide) ⟨_, ho, rfl⟩ (fun s' => typeIs_int s' k t) noFill_tuple_mul F.fills_int_mul F.slot_int_rmul repeat_tuple F.slot_int_index.lookup
      (call_meets F.slot_int_rmul (typeIs_int s k t) F.entry_int_rmul (F.args_int_rmul_2 _ _) (int_rmul_tuple k t l ([] : List Value).toArray n dd sl)
        ⟨ho, rfl, ⟨_, ho, rfl⟩, call_meets F.slot_tuple_mul ⟨_, ho, rfl⟩ F.entry_tuple_mul (F.args_tuple_mul_2 _ _) (tuple_mul0 l ([] : List Value).toArray n dd sl k t c0 (by rfl)) ⟨ho, ⟨.ref l, H, I, rfl, q0 rfl⟩⟩⟩)
  · exact op_repT pins s σ H _ _ v u Q I rx ry ⟨l, k, xs, rfl, rfl, hT, hx, h1, h2, hz, q1 hx⟩
end
end Bf
namespace Bf
open PySem PySem.Spec PyProof.Rows L2
theorem law_callG {P : Program} {w : World} {K : PySem.W.Frag} {mg mb : Str → Option Value} {k : Nat} {fa a : Addr} {fd : FuncData} {x : Str} {sp : Sp} {z₁ : Shared} {vs : List Value} {ns : List Int}
    (KX : K.In z₁.heap) (g1 : z₁.heap.Ns mainGlobals mg) (g2 : z₁.heap.Ns builtinsNs mb) (g3 : ∀ x : Str, x ≠ "__name__" → mb x = bootBuiltins x) (g4 : z₁.heap.NoLimit) (g5 : z₁.gens = #[])
    (ha : z₁.heap.get? a = some { cls := .type "list", data := .seq vs.toArray }) (hi : IntsAre vs ns) (hl : ns.length ≤ sizeLine) (rm : Room k callerA)
    (F : ∀ base : Heap, K.In base → base.Ns mainGlobals mg → FnG P w K mg base k fa fd [x] sp) (hbind : ∀ (s : Shared) (u : Value), BindsTo s fd ⟨[u], []⟩ [(x, u)])
    (hsp : ∀ G : Hp, Only G → SqL K G a (ns.map V.int) → sp [.ref a] G (fun v _ => v = .bl true) fun _ _ _ => False) :
    codeAny (model P w) callerA (.call (.ref fa) ⟨[.ref a], []⟩) (fun r y => r = .ok (.ret (.bool true)) ∧ OldK z₁.heap y.heap ∧ y.os = z₁.os ∧ AllBare y.gens) z₁ := by
  have rv := vals_ints hi
  have lv := hi.length
  have core : ∀ G : Hp, Only G → SqL K G a (ns.map V.int) → HOk P w G z₁.heap → (∀ b, G b ≠ none → b = a) → (G a ≠ none → K.lookup a = none) →
      codeAny (model P w) callerA (.call (.ref fa) ⟨[.ref a], []⟩) (fun r y => r = .ok (.ret (.bool true)) ∧ OldK z₁.heap y.heap ∧ y.os = z₁.os ∧ AllBare y.gens) z₁ := by
    intro G oG sG kG aG lG
    have c0 : ∀ {b : Addr} {o : Obj}, z₁.heap.get? b = some o → G b = none → (hidT z₁.heap G).get? b = some o := fun e n => hidT_get e n
    have c1 : ∀ {b : Addr} {o : Obj} {es : Array DictEntry} {ep : Nat}, z₁.heap.get? b = some o → o.data = .dict es ep → G b = none := fun {b o es ep} e d => by
      cases q : G b with
      | none => rfl
      | some u =>
        obtain rfl : b = a := aG b (by rw [q]; simp)
        rw [ha] at e; cases e
        exact nomatch (show Data.seq vs.toArray _ = Data.dict es ep from d)
    have c2 : ∀ {b : Addr} {m : Str → Option Value}, z₁.heap.Ns b m → (hidT z₁.heap G).Ns b m := fun {b m} ⟨o, es, ep, e, d, r⟩ => ⟨o, es, ep, c0 e (c1 e d), d, r⟩
    have c3 : K.In (hidT z₁.heap G) := fun b o e => c0 (KX b o e) (by
      cases q : G b with
      | none => rfl
      | some u =>
        obtain rfl : b = a := aG b (by rw [q]; simp)
        rw [lG (by rw [q]; simp)] at e; cases e)
    have c4 : Mod K mg (hidT z₁.heap G) := ⟨c3, c2 g1, ⟨mb, c2 g2, g3⟩, let ⟨mc, h1, h2⟩ := g4; ⟨mc, c2 h1, h2⟩⟩
    have c5 : Env0 P w K mg (hidT z₁.heap G) callerA [] z₁ G := ⟨rfl, c4, fun b o e => of_hidT e, Nat.le_of_eq (hidT_size _ _), trivial, fun b hb => absurd (show b ∈ ([] : List Addr) from hb) (by simp), kG, .of_eq g5⟩
    refine codeAny_mono ((F _ c3 (c2 g1)).go callerA [] z₁ G ⟨[.ref a], []⟩ [.ref a] [.ref a] _ _ rfl rm c5 (hbind z₁ (.ref a)) (.cons rfl .nil) (hsp G oG sG)) fun r y h => ?_
    match r, h with
    | .error _, h => exact h.elim
    | .ok .next, h => exact False.elim h
    | .ok .brk, h => exact False.elim h
    | .ok .cont, h => exact False.elim h
    | .ok (.ret u), h =>
        obtain ⟨v, H', e1, e2, un, hk, r', q⟩ := h
        obtain rfl : v = .bl true := q
        obtain rfl : u = Value.bool true := r'
        refine ⟨rfl, OldK.of_keep fun b o e => ?_, e1, e2⟩
        cases q : G b with
        | none => exact un.keep b o e q (by intro z; exact absurd (show b ∈ ([] : List Addr) from z) (by simp)) (by simp)
        | some u =>
          rcases oG b with z | ⟨ob, xs, z⟩
          · rw [q] at z; cases z
          · obtain ⟨p1, _⟩ := kG b _ z
            obtain ⟨p2, _⟩ := hk b _ (un.frzs b ob _ z)
            rw [e] at p1; cases p1
            exact p2
  cases hk : K.lookup a with
  | some o =>
    have e := KX a o hk
    rw [ha] at e
    cases e
    exact core (fun _ => none) (fun _ => .inl rfl) (.inr ⟨_, vs.toArray, _, hk, rfl, rfl, rfl, by rw [List.size_toArray, lv]; exact hl, by simpa using rv⟩) (fun b u z => nomatch (show (none : Option HO) = some u from z)) (fun b z => absurd rfl z) fun z => absurd rfl z
  | none =>
    refine core (fun b => if b = a then some (.frz { cls := .type "list", data := .seq vs.toArray } (.lst (ns.map V.int))) else none) (fun b => ?_) (.inl (.inr ⟨{ cls := .type "list", data := .seq vs.toArray }, if_pos rfl⟩)) (fun b u z => ?_) (fun b z => ?_) fun _ => hk
    · exact (Decidable.em (b = a)).elim (fun hb => .inr ⟨_, _, if_pos hb⟩) fun hb => .inl (if_neg hb)
    · by_cases hb : b = a
      · have y := (if_pos hb).symm.trans z
        cases y
        subst hb
        exact ⟨ha, by rw [List.length_map]; exact hl, vs, _, rv, ha⟩
      · exact nomatch ((if_neg hb).symm.trans z)
    · exact Decidable.byContradiction fun hb => z (if_neg hb)

theorem walkG {l : PySem.W.OpenLaw} {n k : Nat} {q : Program} {loose : List Str} {XP : (Str → Option Value) → Heap → Prop} {YP : World → Heap → Prop} {d : DefRec} {K : Params → PySem.W.Frag} {sp : PySem.W.Frag → Sp} {x : Str}
    (hn : l.most = some n) (hn2 : n ≤ sizeLine) (hdf : d.params.defaults = []) (rm : Room k callerA) (hY : ∀ (w : World) (h : Heap), YP w h → (K w.params).In h)
    (F : ∀ (w : World) (mg : Str → Option Value) (fa : Addr) (h : Heap), (K w.params).In h → h.Ns mainGlobals mg → mg d.name = some (.ref fa) →
      ∃ fd : FuncData, (∀ (s : Shared) (u : Value), BindsTo s fd ⟨[u], []⟩ [(x, u)]) ∧ ∀ base : Heap, (K w.params).In base → base.Ns mainGlobals mg → FnG l.prog w (K w.params) mg base k fa fd [x] (sp (K w.params)))
    (hsp : ∀ (K : PySem.W.Frag) (H : Hp) (a : Addr) (ns : List Int), ns.length ≤ n → Only H → SqL K H a (ns.map V.int) → sp K [.ref a] H (fun v _ => v = .bl true) fun _ _ _ => False) :
    PySem.W.WalkO q loose XP YP l.row.toRowW d [] (fun f vs => PySem.call f vs) := by
  refine Att.attach_call hn hdf fun w s₀ s₁ mg mb fa o pm cd doc a vs ns G Y ho hd hcd hmg hobj hints hlen hg => ?_
  obtain ⟨fd, hb, hF⟩ := F w mg fa _ (hY w _ Y) G.T.g hmg
  exact law_callG (hY w _ Y) G.T.g G.T.b G.T.builtins G.T.nolimit hg hobj hints (Nat.le_trans hlen hn2) rm hF hb fun H hO hS => hsp (K w.params) H a ns hlen hO hS
end Bf
namespace Bf
open PySem PySem.Spec PyProof.Rows L2
def topS (i : Nat) : Stmt := PySem.Challenge.pw_beatferry_k01_bits_and_back.main.body.getD i (.Pass ⟨0, 0, 0, 0⟩)
abbrev sPot : Stmt := topS 5
abbrev sTake : Stmt := topS 6
abbrev sOf : Stmt := topS 7
abbrev sFar : Stmt := topS 8
abbrev sSize : Stmt := topS 9
abbrev sPerson : Stmt := topS 10
theorem scPot : FnScope ["_law_script", "_law_k", "_law_cell", "_law_own"] ["_law_script", "_law_k"] (defScope sPot) := ⟨rfl, rfl, rfl, by decide +kernel, rfl, by decide +kernel, by decide +kernel⟩
theorem scTake : FnScope ["_law_pot_here", "_law_size_here", "_law_digit", "_law_turn", "_law_prime", "_law_mixed"] ["_law_pot_here", "_law_size_here"] (defScope sTake) := ⟨rfl, rfl, rfl, by decide +kernel, rfl, by decide +kernel, by decide +kernel⟩
theorem scOf : FnScope ["_law_pot_here", "_law_menu"] ["_law_pot_here", "_law_menu"] (defScope sOf) := ⟨rfl, rfl, rfl, by decide +kernel, rfl, by decide +kernel, by decide +kernel⟩
theorem scFar : FnScope ["_law_pot_here", "_law_size_here"] ["_law_pot_here", "_law_size_here"] (defScope sFar) := ⟨rfl, rfl, rfl, by decide +kernel, rfl, by decide +kernel, by decide +kernel⟩
theorem scSize : FnScope ["_law_pot_here"] ["_law_pot_here"] (defScope sSize) := ⟨rfl, rfl, rfl, by decide +kernel, rfl, by decide +kernel, by decide +kernel⟩
theorem scPerson : FnScope ["_law_pot_here", "_law_size_here", "_law_full", "_law_single", "_law_few"] ["_law_pot_here", "_law_size_here"] (defScope sPerson) := ⟨rfl, rfl, rfl, by decide +kernel, rfl, by decide +kernel, by decide +kernel⟩

/-! ### heaps -/
def Keeps (a : Addr) (H H' : Hp) : Prop := ∀ b o, b ≠ a → H b = some o → H' b = some o
theorem Keeps.refl (a : Addr) (H : Hp) : Keeps a H H := fun _ _ _ h => h
theorem Keeps.trans {a : Addr} {H H1 H2 : Hp} (x : Keeps a H H1) (y : Keeps a H1 H2) : Keeps a H H2 := fun b o n h => y b o n (x b o n h)
theorem Keeps.new {a p : Addr} {H H1 : Hp} {o : HO} (x : Keeps a H H1) (h : H1 p = none) : Keeps a H (upd H1 p o) := fun b u n e => by
  have e1 := x b u n e
  rw [upd_ne (ne_of_none e1 h)]
  exact e1
theorem Keeps.at {a : Addr} {H H1 : Hp} {o : HO} (x : Keeps a H H1) : Keeps a H (upd H1 a o) := fun b u n e => by
  rw [upd_ne n]
  exact x b u n e
theorem Keeps.of_same {a : Addr} {H H1 : Hp} (x : Same H H1) : Keeps a H H1 := fun b u _ e => x b u e
theorem same_new {H H1 : Hp} {p : Addr} {o : HO} (x : Same H H1) (h : H1 p = none) : Same H (upd H1 p o) := fun b u e => by
  have e1 := x b u e
  rw [upd_ne (ne_of_none e1 h)]
  exact e1
/-- an expression that gives v, the heap as it was -/
def Gives (t : TE) (σ : L2.St) (H : Hp) (v : V) : Prop := ∀ Q : VK, Q v H → t σ H Q
theorem rd_ifI {tt : TT} {ta tb : TE} {σ : L2.St} {H : Hp} {Q : VK} (b : Bool) (P : Int → Prop) (h0 : ∀ Q' : Bool → Hp → Prop, Q' b H → tt σ H Q') (h1 : b = true → ∃ c : Int, P c ∧ Gives ta σ H (.int c)) (h2 : b = false → ∃ c : Int, P c ∧ Gives tb σ H (.int c))
    (h : ∀ c : Int, P c → Q (.int c) H) : tIf tt ta tb σ H Q := by
  refine h0 _ ?_
  cases b with
  | true => obtain ⟨c, hp, hc⟩ := h1 rfl; exact iteT (hc _ (h c hp))
  | false => obtain ⟨c, hp, hc⟩ := h2 rfl; exact iteF (hc _ (h c hp))
/-- the pot: three numbers at a; n counts what was drawn -/
def Pot (H : Hp) (a : Addr) (n : Nat) : Prop := ∃ x y z : Int, H a = some (.lst [.int x, .int y, .int z]) ∧ 0 ≤ x ∧ 0 ≤ y ∧ y < 2305843009213693952 ∧ 0 ≤ z ∧ z ≤ n
theorem Pot.up {H : Hp} {a : Addr} {n m : Nat} (h : Pot H a n) (l : n ≤ m) : Pot H a m := let ⟨x, y, z, h1, h2, h3, h4, h5, h6⟩ := h; ⟨x, y, z, h1, h2, h3, h4, h5, by omega⟩
theorem Pot.new {H : Hp} {a p : Addr} {n : Nat} {o : HO} (h : Pot H a n) (hp : H p = none) : Pot (upd H p o) a n := let ⟨x, y, z, h1, h2⟩ := h; ⟨x, y, z, by rw [upd_ne (ne_of_none h1 hp)]; exact h1, h2⟩
theorem Pot.same {H H' : Hp} {a : Addr} {n : Nat} (h : Pot H a n) (s : Same H H') : Pot H' a n := let ⟨x, y, z, h1, h2⟩ := h; ⟨x, y, z, s _ _ h1, h2⟩

section
variable {P : Program} {w : World} {K : PySem.W.Frag} {mg : Str → Option Value} {base : Heap} {f fT fO fF : Addr} {fd fdT fdO fdF : FuncData} {k : Nat}
/-! ### pot -/
def spPot (K : PySem.W.Frag) : Sp := fun vs H Q _ => ∃ (a : Addr) (ns : List Int) (k : Nat), vs = [.ref a, .int k] ∧ SqL K H a (ns.map V.int) ∧ ns.length ≤ 63 ∧ k ≤ 100 ∧
  ∀ H' p, Same H H' → H p = none → Pot H' p 0 → Q (.ref p) H'
theorem ok_pot (F : Fun K "_law_pot" "_law_pot" sPot f fd) (ml : mg "len" = none) (ma : mg "abs" = none) : FnOk P w K mg base CX0 (k + 1) f fd ["_law_script", "_law_k"] (spPot K) := by
  refine F.ok scPot (fun vs H Q E h => ?_) (fun cdv A outer s H vs Q E hr h => ?_)
  · obtain ⟨a, ns, k, rfl, _⟩ := h
    rfl
  · obtain ⟨a, ns, k, rfl, hS, hl, hk, q⟩ := h
    refine ⟨_, pss_cons (ps_set (i := 2) scPot.nd rfl (.inl rfl) (pe_ifExp (pt_cmpR op_lt (pv 1) (pe_callB call_len_seq (by rfl) ml PySem.boot_len (pa_cons (pv 0) pa_nil)) (nomark _)) (pe_ix ix_list (pv 0) (pv 1) (fun _ _ => rfl)) pe_int))
      (pss_cons (ps_set (i := 3) scPot.nd rfl (.inl rfl) (pe_ifExp (pt_cmpR op_ge (pe_callB call_abs (by rfl) ma (by decide +kernel) (pa_cons (pv 2) pa_nil)) (pe_op op_pow pe_int pe_int) (nomark _)) (pe_callB call_abs (by rfl) ma (by decide +kernel) (pa_cons (pv 2) pa_nil)) pe_int))
      (pss_one (ps_ret (pe_lst (pa_cons (pv 3) (pa_cons (pe_op op_mod (pe_op op_mul (pe_op op_add (pe_op op_add (pe_op op_mod (pv 2) pe_int) (pe_op op_mul (pe_op op_mul pe_int (pv 1)) (pv 1))) pe_int) pe_int) pe_int) (pa_cons pe_int pa_nil))))))), ?_⟩
    have fin : ∀ (x y : Int), 0 ≤ x → 0 ≤ y → y < 2305843009213693952 → ∀ p, H p = none → Q (.ref p) (upd H p (.lst [.int x, .int y, .int 0])) := fun x y h1 h2 h3 p np =>
      q _ p (same_new (Same.refl H) np) np ⟨x, y, 0, upd_same, h1, h2, h3, by omega, by omega⟩
    refine rd_ifI (decide ((k : Int) < ((ns.map V.int).length : Int))) (fun _ => True) ?_ ?_ ?_ ?_
    · exact fun Q' h => ⟨.int k, rfl, .ref a, rfl, a, _, rfl, .inl hS, _, _, rfl, rfl, _, rfl, h⟩
    · intro e
      have z : (k : Int) < ((ns.map V.int).length : Int) := of_decide_eq_true e
      rw [List.length_map] at z
      have z2 : k < ns.length := by omega
      exact ⟨ns[k], trivial, fun Q' h => ⟨.ref a, rfl, .int k, rfl, a, _, _, _, rfl, rfl, hS, atI_nat (j := k) (by rw [List.getElem?_map, List.getElem?_eq_getElem z2]; rfl), h⟩⟩
    · exact fun _ => ⟨0, trivial, fun Q' h => h⟩
    intro c _
    have habs : (0 : Int) ≤ if c < 0 then -c else c := by split <;> omega
    dsimp only [gName, tSeq, tAsg]
    refine rd_ifI (decide ((10 : Int) ^ (18 : Int).toNat ≤ (if c < 0 then -c else c))) (fun n => 0 ≤ n) ?_ ?_ ?_ ?_
    · exact fun Q' h => ⟨.int c, rfl, c, rfl, _, _, rfl, rfl, ⟨by decide, by decide, by decide⟩, _, _, rfl, rfl, _, rfl, h⟩
    · exact fun _ => ⟨_, habs, fun Q' h => ⟨.int c, rfl, c, rfl, h⟩⟩
    · exact fun _ => ⟨0, Int.le_refl 0, fun Q' h => h⟩
    intro own hown
    refine ⟨.int own, rfl, .int c, rfl, _, _, rfl, rfl, (show (0 : Int) < 2305843009213693951 by decide), .int k, rfl, _, _, rfl, rfl, .inl ⟨by decide, by decide⟩, .int k, rfl, _, _, rfl, rfl, .inr ⟨by omega, by omega⟩, _, _, rfl, rfl, _, _, rfl, rfl, _, _, rfl, rfl,
      .inr ⟨by decide, by decide⟩, _, _, rfl, rfl, (show (0 : Int) < 2305843009213693921 by decide), (by show 3 ≤ sizeLine; decide), fun p np => ?_⟩
    exact fin own _ hown (Int.emod_nonneg _ (by decide)) (Int.lt_trans (Int.emod_lt_of_pos _ (by decide)) (by decide)) p np
/-! ### take -/
def spTake : Sp := fun vs H Q _ => ∃ (a : Addr) (n m : Nat), vs = [.ref a, .int n] ∧ 0 < n ∧ n < 1073741824 ∧ Pot H a m ∧ m < 100000 ∧ ∀ (r : Nat) H', r < n → Keeps a H H' → Pot H' a (m + 1) → Q (.int r) H'
theorem primes4 (n : Int) (h0 : 0 ≤ n) (h : n < 4) : ∃ v : Int, atI [V.int 2305843009213693951, .int 999999999989, .int 1000000000039, .int 67280421310721] n = some (.int v) ∧ 0 < v := by
  obtain ⟨m, rfl⟩ := Int.eq_ofNat_of_zero_le h0
  match m, h with
  | 0, _ => exact ⟨_, rfl, by decide⟩
  | 1, _ => exact ⟨_, rfl, by decide⟩
  | 2, _ => exact ⟨_, rfl, by decide⟩
  | 3, _ => exact ⟨_, rfl, by decide⟩
theorem nat_of {i : Int} {n : Nat} (h0 : 0 ≤ i) (h : i < n) : ∃ r : Nat, i = (r : Int) ∧ r < n := ⟨i.toNat, by omega, by omega⟩
theorem ok_take (F : Fun K "_law_take" "_law_take" sTake f fd) : FnOk P w K mg base CX0 (k + 1) f fd ["_law_pot_here", "_law_size_here"] spTake := by
  refine F.ok scTake (fun vs H Q E h => ?_) (fun cdv A outer s H vs Q E hr h => ?_)
  · obtain ⟨a, n, m, rfl, _⟩ := h
    rfl
  · obtain ⟨a, n, m, rfl, hn, hn2, ⟨x, y, z, hH, hx, hy, hy2, hz, hz2⟩, hm, q⟩ := h
    refine ⟨_, pss_cons (ps_if (pt_cmpR op_gt (pe_ix ix_list (pv 0) pe_int (fun _ _ => rfl)) pe_int (nomark _))
        (pss_cons (ps_set (i := 2) scTake.nd rfl (.inl rfl) (pe_op op_mod (pe_ix ix_list (pv 0) pe_int (fun _ _ => rfl)) (pv 1)))
        (pss_cons (ps_asg (pe_op op_fdiv (pe_ix ix_list (pv 0) pe_int (fun _ _ => rfl)) (pv 1)) (pg_sub (pv 0) pe_int set_list))
        (pss_one (ps_ret (pv 2))))) pss_nil)
      (pss_cons (ps_set (i := 3) scTake.nd rfl (.inl rfl) (pe_op op_add (pe_ix ix_list (pv 0) pe_int (fun _ _ => rfl)) pe_int))
      (pss_cons (ps_asg (pv 3) (pg_sub (pv 0) pe_int set_list))
      (pss_cons (ps_set (i := 4) scTake.nd rfl (.inl rfl) (pe_ix ix_list (pe_lst (pa_cons pe_int (pa_cons pe_int (pa_cons pe_int (pa_cons pe_int pa_nil))))) (pe_op op_mod (pv 3) pe_int) (fun _ _ => rfl)))
      (pss_cons (ps_set (i := 5) scTake.nd rfl (.inl rfl) (pe_op op_mod (pe_op op_pow (pe_op op_add (pe_op op_add (pe_ix ix_list (pv 0) pe_int (fun _ _ => rfl)) (pe_op op_mul (pe_op op_mul pe_int (pv 3)) (pv 3))) (pe_op op_mul pe_int (pv 3))) pe_int) (pv 4)))
      (pss_one (ps_ret (pe_op op_mod (pe_op op_add (pe_op op_fdiv (pv 5) pe_int) (pe_op op_mul (pe_op op_fdiv (pv 5) pe_int) pe_int)) (pv 1)))))))), ?_⟩
    have hL : SqL K H a [.int x, .int y, .int z] := .inl (.inl hH)
    have hnI : (0 : Int) < (n : Int) := by omega
    have hnI2 : (n : Int) < 1073741824 := by omega
    refine ⟨.ref a, rfl, a, _, _, .int x, rfl, rfl, hL, rfl, _, _, rfl, rfl, _, rfl, ite2 (fun e => ?_) (fun e => ?_)⟩
    · obtain ⟨r, er, hr2⟩ := nat_of (n := n) (Int.emod_nonneg x (Int.ne_of_gt hnI)) (Int.emod_lt_of_pos x hnI)
      refine ⟨.ref a, rfl, a, _, _, .int x, rfl, rfl, hL, rfl, .int n, rfl, _, _, rfl, rfl, hnI, ?_⟩
      refine ⟨.ref a, rfl, a, _, _, .int x, rfl, rfl, hL, rfl, .int n, rfl, _, _, rfl, rfl, ⟨hnI, hnI2⟩, .ref a, rfl, a, _, _, 0, rfl, rfl, hH, rfl, .int (x % n), rfl, ?_⟩
      rw [er]
      exact q r _ hr2 (Keeps.refl a H).at ⟨x / n, y, z, upd_same, Int.ediv_nonneg hx (Int.le_of_lt hnI), hy, hy2, hz, by omega⟩
    · refine ⟨.ref a, rfl, a, _, _, .int z, rfl, rfl, hL, rfl, _, _, rfl, rfl, .int (z + 1), rfl, .ref a, rfl, a, _, _, 2, rfl, rfl, hH, rfl, (by show 4 ≤ sizeLine; decide), fun p np => ?_⟩
      obtain ⟨v, hv, hv0⟩ := primes4 ((z + 1) % 4) (Int.emod_nonneg _ (by decide)) (Int.emod_lt_of_pos _ (by decide))
      have hap : a ≠ p := fun e => by
        rw [← e, upd_same] at np
        cases np
      have hL2 : SqL K (upd (upd H a (.lst [.int x, .int y, .int (z + 1)])) p (.lst [V.int 2305843009213693951, .int 999999999989, .int 1000000000039, .int 67280421310721])) a [.int x, .int y, .int (z + 1)] := .inl (.inl (by rw [upd_ne hap, upd_same]))
      refine ⟨.int (z + 1), rfl, _, _, rfl, rfl, (show (0 : Int) < 4 by decide), p, _, _, .int v, rfl, rfl, .inl (.inl upd_same), hv, ?_⟩
      have hb : (y + 7919 * (z + 1) * (z + 1) + 65537 * (z + 1)).natAbs < 2 ^ 64 := by
        have z1 : 7919 * (z + 1) ≤ 7919 * 100001 := by omega
        have z2 : 7919 * (z + 1) * (z + 1) ≤ 7919 * 100001 * 100001 := Int.mul_le_mul z1 (by omega) (by omega) (by decide)
        have z3 : 0 ≤ 7919 * (z + 1) * (z + 1) := Int.mul_nonneg (by omega) (by omega)
        omega
      refine ⟨.ref a, rfl, a, _, _, .int y, rfl, rfl, hL2, rfl, .int (z + 1), rfl, _, _, rfl, rfl, .inl ⟨by decide, by decide⟩, .int (z + 1), rfl, _, _, rfl, rfl, .inr ⟨by omega, by omega⟩, _, _, rfl, rfl, .int (z + 1), rfl, _, _, rfl, rfl, .inl ⟨by decide, by decide⟩, _, _, rfl, rfl,
        _, _, rfl, rfl, ⟨by decide, by decide, hb⟩, .int v, rfl, _, _, rfl, rfl, hv0, ?_⟩
      refine ⟨_, rfl, _, _, rfl, rfl, ⟨by decide, by decide⟩, _, rfl, _, _, rfl, rfl, ⟨by decide, by decide⟩, _, _, rfl, rfl, .inr ⟨by decide, by decide⟩, _, _, rfl, rfl, .int n, rfl, _, _, rfl, rfl, hnI, ?_⟩
      generalize (_ : Int) / 4099 + _ = g
      obtain ⟨r, er, hr2⟩ := nat_of (n := n) (Int.emod_nonneg g (Int.ne_of_gt hnI)) (Int.emod_lt_of_pos g hnI)
      show Q (.int (g % n)) _
      rw [er]
      refine q r _ hr2 ((Keeps.refl a H).at.new np) ⟨x, y, z + 1, by rw [upd_ne hap, upd_same]; rfl, hx, hy, hy2, by omega, by omega⟩
/-! ### numbers that are not negative -/
theorem op_orN {X : Cx} : OpR X (binaryOp .BitOr) (fun x y H Q => ∃ n m : Nat, x = .int (n : Int) ∧ y = .int (m : Int) ∧ Q (.int ((n ||| m : Nat) : Int)) H) := by
  intro pins s σ H x y v u Q I rx ry h
  obtain ⟨n, m, rfl, rfl, q⟩ := h
  refine op_or pins s σ H _ _ v u Q I rx ry ⟨(n : Int), (m : Int), rfl, rfl, ?_⟩
  show Q (.int (Builtin.bitOr (n : Int) (m : Int))) H
  rw [bitOr_nn (Int.natCast_nonneg n) (Int.natCast_nonneg m)]
  exact q
theorem op_bit {X : Cx} : OpR X (binaryOp .LShift) (fun x y H Q => ∃ k : Nat, x = .int 1 ∧ y = .int (k : Int) ∧ k ≤ 134217727 ∧ Q (.int ((2 ^ k : Nat) : Int)) H) := by
  intro pins s σ H x y v u Q I rx ry h
  obtain ⟨k, rfl, rfl, hk, q⟩ := h
  refine op_oneShl pins s σ H _ _ v u Q I rx ry ⟨k, rfl, rfl, hk, ?_⟩
  rw [Int.natCast_pow] at q
  exact q
/-! ### of -/
def spOf (K : PySem.W.Frag) : Sp := fun vs H Q _ => ∃ (a b : Addr) (xs : List V) (m : Nat), vs = [.ref a, .ref b] ∧ (∀ H', Keeps a H H' → SqL K H' b xs) ∧ 0 < xs.length ∧ xs.length < 1073741824 ∧ Pot H a m ∧ m < 100000 ∧ ∀ v H', v ∈ xs → Keeps a H H' → Pot H' a (m + 1) → Q v H'
theorem ok_of (F : Fun K "_law_of" "_law_of" sOf f fd) (GT : FnOk P w K mg base CX0 1 fT fdT ["_law_pot_here", "_law_size_here"] spTake) (kT : PySem.W.keepIn K (.ref fT) = true) (bT : Binds K fdT ["_law_pot_here", "_law_size_here"] []) (gT : mg "_law_take" = some (.ref fT)) (ml : mg "len" = none) :
    FnOk P w K mg base CX0 2 f fd ["_law_pot_here", "_law_menu"] (spOf K) := by
  refine F.ok scOf (fun vs H Q E h => ?_) (fun cdv A outer s H vs Q E hr h => ?_)
  · obtain ⟨a, b, xs, m, rfl, _⟩ := h
    rfl
  · obtain ⟨a, b, xs, m, rfl, hS, h0, h1, hp, hm, q⟩ := h
    refine ⟨_, pss_one (ps_ret (pe_ix ix_list (pv 1) (pe_call GT hr (by rfl) gT kT bT .nil pass0 (pa_cons (pv 0) (pa_cons (pe_callB call_len_seq (by rfl) ml PySem.boot_len (pa_cons (pv 1) pa_nil)) pa_nil))) (fun _ _ => rfl))), ?_⟩
    refine ⟨.ref b, rfl, .ref a, rfl, .ref b, rfl, b, xs, rfl, .inl (hS H (Keeps.refl a H)), a, xs.length, m, rfl, h0, h1, hp, hm, fun r H' hr1 kp hp' => ?_⟩
    refine ⟨b, xs, r, xs[r], rfl, rfl, hS H' kp, atI_nat (List.getElem?_eq_getElem hr1), ?_⟩
    exact q _ H' (List.getElem_mem hr1) kp hp'
/-! ### far -/
def spFar : Sp := fun vs H Q _ => ∃ (a : Addr) (n m : Nat), vs = [.ref a, .int n] ∧ 0 < n ∧ Pot H a m ∧ m < 90000 ∧ ∀ (r : Nat) H', r < n → Keeps a H H' → Pot H' a (m + 2) → Q (.int r) H'
theorem ok_far (F : Fun K "_law_far" "_law_far" sFar f fd) (GT : FnOk P w K mg base CX0 1 fT fdT ["_law_pot_here", "_law_size_here"] spTake) (kT : PySem.W.keepIn K (.ref fT) = true) (bT : Binds K fdT ["_law_pot_here", "_law_size_here"] []) (gT : mg "_law_take" = some (.ref fT)) :
    FnOk P w K mg base CX0 2 f fd ["_law_pot_here", "_law_size_here"] spFar := by
  refine F.ok scFar (fun vs H Q E h => ?_) (fun cdv A outer s H vs Q E hr h => ?_)
  · obtain ⟨a, n, m, rfl, _⟩ := h
    rfl
  · obtain ⟨a, n, m, rfl, hn, hp, hm, q⟩ := h
    refine ⟨_, pss_one (ps_ret (pe_op op_mod (pe_op op_mul (pe_op op_add (pe_op op_mul (pe_call GT hr (by rfl) gT kT bT .nil pass0 (pa_cons (pv 0) (pa_cons (pe_op op_pow pe_int pe_int) pa_nil))) (pe_op op_pow pe_int pe_int))
      (pe_call GT hr (by rfl) gT kT bT .nil pass0 (pa_cons (pv 0) (pa_cons (pe_op op_pow pe_int pe_int) pa_nil)))) pe_int) (pv 1))), ?_⟩
    refine ⟨.ref a, rfl, _, _, rfl, rfl, ⟨by decide, by decide, by decide⟩, a, 1000000000, m, rfl, by decide, by decide, hp, by omega, fun r1 H1 l1 k1 p1 => ?_⟩
    refine ⟨_, _, rfl, rfl, ⟨by decide, by decide, by decide⟩, _, _, rfl, rfl, .inl ⟨by omega, by omega⟩, .ref a, rfl, _, _, rfl, rfl, ⟨by decide, by decide, by decide⟩, a, 1000000000, m + 1, rfl, by decide, by decide, p1, by omega, fun r2 H2 l2 k2 p2 => ?_⟩
    have hnI : (0 : Int) < (n : Int) := by omega
    refine ⟨_, _, rfl, rfl, _, _, rfl, rfl, .inr ⟨by decide, by decide⟩, .int n, rfl, _, _, rfl, rfl, hnI, ?_⟩
    obtain ⟨r, er, hr2⟩ := nat_of (n := n) (Int.emod_nonneg (((r1 : Int) * 10 ^ (9 : Int).toNat + r2) * 7) (Int.ne_of_gt hnI)) (Int.emod_lt_of_pos _ hnI)
    show Q (.int ((((r1 : Int) * 10 ^ (9 : Int).toNat + r2) * 7) % n)) _
    rw [er]
    exact q r H2 hr2 (k1.trans k2) p2
/-! ### size -/
def spSize : Sp := fun vs H Q _ => ∃ (a : Addr) (m : Nat), vs = [.ref a] ∧ Pot H a m ∧ m < 90000 ∧ ∀ (r : Nat) H', 1 ≤ r → r ≤ 60 → Keeps a H H' → Pot H' a (m + 2) → Q (.int r) H'
theorem ok_size (F : Fun K "_law_size" "_law_size" sSize f fd) (GT : FnOk P w K mg base CX0 1 fT fdT ["_law_pot_here", "_law_size_here"] spTake) (kT : PySem.W.keepIn K (.ref fT) = true) (bT : Binds K fdT ["_law_pot_here", "_law_size_here"] []) (gT : mg "_law_take" = some (.ref fT))
    (GO : FnOk P w K mg base CX0 2 fO fdO ["_law_pot_here", "_law_menu"] (spOf K)) (kO : PySem.W.keepIn K (.ref fO) = true) (bO : Binds K fdO ["_law_pot_here", "_law_menu"] []) (gO : mg "_law_of" = some (.ref fO)) : FnOk P w K mg base CX0 3 f fd ["_law_pot_here"] spSize := by
  refine F.ok scSize (fun vs H Q E h => ?_) (fun cdv A outer s H vs Q E hr h => ?_)
  · obtain ⟨a, m, rfl, _⟩ := h
    rfl
  · obtain ⟨a, m, rfl, hp, hm, q⟩ := h
    refine ⟨_, pss_one (ps_ret (pe_call GO hr (by rfl) gO kO bO .nil pass0 (pa_cons (pv 0) (pa_cons (pe_lst (pa_cons pe_int (pa_cons pe_int (pa_cons pe_int (pa_cons pe_int (pa_cons pe_int (pa_cons pe_int (pa_cons pe_int (pa_cons pe_int
      (pa_cons (pe_op op_add pe_int (pe_call GT (hr.mono (by decide)) (by rfl) gT kT bT .nil pass0 (pa_cons (pv 0) (pa_cons pe_int pa_nil)))) pa_nil)))))))))) pa_nil)))), ?_⟩
    refine ⟨.ref a, rfl, .ref a, rfl, a, 60, m, rfl, by decide, by decide, hp, by omega, fun r H1 l1 k1 p1 => ?_⟩
    refine ⟨_, _, rfl, rfl, (by show 9 ≤ sizeLine; decide), fun b nb => ?_⟩
    refine ⟨a, b, _, m + 1, rfl, fun H' kp => .inl (.inl (kp b _ (fun e => ?_) upd_same)), (by show 0 < 9; decide), (by show 9 < 1073741824; decide), p1.new nb, by omega, fun v H' hv kp p' => ?_⟩
    · obtain ⟨x, y, z, hH, _⟩ := p1
      rw [e, hH] at nb
      cases nb
    · have e : ∃ j : Nat, v = .int (j : Int) ∧ 1 ≤ j ∧ j ≤ 60 := by
        simp only [List.mem_cons, List.not_mem_nil, or_false] at hv
        rcases hv with rfl | rfl | rfl | rfl | rfl | rfl | rfl | rfl | rfl
        · exact ⟨1, rfl, by decide, by decide⟩
        · exact ⟨2, rfl, by decide, by decide⟩
        · exact ⟨3, rfl, by decide, by decide⟩
        · exact ⟨4, rfl, by decide, by decide⟩
        · exact ⟨5, rfl, by decide, by decide⟩
        · exact ⟨8, rfl, by decide, by decide⟩
        · exact ⟨59, rfl, by decide, by decide⟩
        · exact ⟨60, rfl, by decide, by decide⟩
        · exact ⟨1 + r, by rw [Int.natCast_add]; rfl, by omega, by omega⟩
      obtain ⟨j, rfl, h1, h2⟩ := e
      exact q j H' h1 h2 ((k1.new nb).trans kp) p'
/-! ### person -/
def spPerson : Sp := fun vs H Q _ => ∃ (a : Addr) (n m : Nat), vs = [.ref a, .int n] ∧ 1 ≤ n ∧ n ≤ 60 ∧ Pot H a m ∧ m < 80000 ∧ ∀ (r : Nat) H', r < 2 ^ n → Keeps a H H' → Pot H' a (m + 8) → Q (.int r) H'
theorem ok_person (F : Fun K "_law_person" "_law_person" sPerson f fd) (GT : FnOk P w K mg base CX0 1 fT fdT ["_law_pot_here", "_law_size_here"] spTake) (kT : PySem.W.keepIn K (.ref fT) = true) (bT : Binds K fdT ["_law_pot_here", "_law_size_here"] []) (gT : mg "_law_take" = some (.ref fT))
    (GO : FnOk P w K mg base CX0 2 fO fdO ["_law_pot_here", "_law_menu"] (spOf K)) (kO : PySem.W.keepIn K (.ref fO) = true) (bO : Binds K fdO ["_law_pot_here", "_law_menu"] []) (gO : mg "_law_of" = some (.ref fO))
    (GF : FnOk P w K mg base CX0 2 fF fdF ["_law_pot_here", "_law_size_here"] spFar) (kF : PySem.W.keepIn K (.ref fF) = true) (bF : Binds K fdF ["_law_pot_here", "_law_size_here"] []) (gF : mg "_law_far" = some (.ref fF)) : FnOk P w K mg base CX0 3 f fd ["_law_pot_here", "_law_size_here"] spPerson := by
  refine F.ok scPerson (fun vs H Q E h => ?_) (fun cdv A outer s H vs Q E hr h => ?_)
  · obtain ⟨a, n, m, rfl, _⟩ := h
    rfl
  · obtain ⟨a, n, m, rfl, hn, hn2, hp, hm, q⟩ := h
    refine ⟨_, pss_cons (ps_par (i := 2) (j := 3) (by rfl) scPerson.nd rfl rfl (by decide) rfl rfl (pa_cons (pe_op op_subN (pe_op op_bit pe_int (pv 1)) pe_int) (pa_cons (pe_op op_bit pe_int (pe_call GT (hr.mono (by decide)) (by rfl) gT kT bT .nil pass0 (pa_cons (pv 0) (pa_cons (pv 1) pa_nil)))) pa_nil)) (by rfl))
      (pss_cons (ps_set (i := 4) scPerson.nd rfl (.inl rfl) (pe_op op_orN (pe_op op_orN (pv 3) (pe_op op_bit pe_int (pe_call GT (hr.mono (by decide)) (by rfl) gT kT bT .nil pass0 (pa_cons (pv 0) (pa_cons (pv 1) pa_nil)))))
        (pe_op op_bit pe_int (pe_call GT (hr.mono (by decide)) (by rfl) gT kT bT .nil pass0 (pa_cons (pv 0) (pa_cons (pv 1) pa_nil))))))
      (pss_one (ps_ret (pe_call GO hr (by rfl) gO kO bO .nil pass0 (pa_cons (pv 0) (pa_cons (pe_lst (pa_cons pe_int (pa_cons (pv 2) (pa_cons (pv 3) (pa_cons (pe_op op_subN (pv 2) (pv 3)) (pa_cons (pv 4)
        (pa_cons (pe_call GF hr (by rfl) gF kF bF .nil pass0 (pa_cons (pv 0) (pa_cons (pe_op op_addN (pv 2) pe_int) pa_nil)))
        (pa_cons (pe_call GF hr (by rfl) gF kF bF .nil pass0 (pa_cons (pv 0) (pa_cons (pe_op op_addN (pv 2) pe_int) pa_nil))) pa_nil)))))))) pa_nil)))))), ?_⟩
    have h2n : 1 ≤ 2 ^ n := Nat.one_le_two_pow
    refine ⟨.int n, rfl, n, rfl, rfl, by omega, 2 ^ n, 1, rfl, rfl, h2n, .ref a, rfl, .int n, rfl, a, n, m, rfl, by omega, by omega, hp, by omega, fun t0 H1 l0 k1 p1 => ?_⟩
    refine ⟨t0, rfl, rfl, by omega, _, _, rfl, _, rfl, .ref a, rfl, .int n, rfl, a, n, m + 1, rfl, by omega, by omega, p1, by omega, fun t1 H2 l1 k2 p2 => ?_⟩
    refine ⟨t1, rfl, rfl, by omega, 2 ^ t0, 2 ^ t1, rfl, rfl, .ref a, rfl, .int n, rfl, a, n, m + 2, rfl, by omega, by omega, p2, by omega, fun t2 H3 l2 k3 p3 => ?_⟩
    refine ⟨t2, rfl, rfl, by omega, 2 ^ t0 ||| 2 ^ t1, 2 ^ t2, rfl, rfl, ?_⟩
    have b0 : 2 ^ t0 < 2 ^ n := Nat.pow_lt_pow_right (by decide) l0
    have b1 : 2 ^ t1 < 2 ^ n := Nat.pow_lt_pow_right (by decide) l1
    have b2 : 2 ^ t2 < 2 ^ n := Nat.pow_lt_pow_right (by decide) l2
    refine ⟨.ref a, rfl, _, rfl, _, rfl, _, rfl, _, rfl, 2 ^ n - 1, 2 ^ t0, rfl, rfl, by omega, _, rfl, ?_⟩
    refine ⟨.ref a, rfl, _, rfl, 2 ^ n - 1, 1, rfl, rfl, a, 2 ^ n - 1 + 1, m + 3, rfl, by omega, p3, by omega, fun r1 H4 l4 k4 p4 => ?_⟩
    refine ⟨.ref a, rfl, _, rfl, 2 ^ n - 1, 1, rfl, rfl, a, 2 ^ n - 1 + 1, m + 5, rfl, by omega, p4, by omega, fun r2 H5 l5 k5 p5 => ?_⟩
    refine ⟨(by show 7 ≤ sizeLine; decide), fun b nb => ?_⟩
    refine ⟨a, b, _, m + 7, rfl, fun H' kp => .inl (.inl (kp b _ (fun e => ?_) upd_same)), (by show 0 < 7; decide), (by show 7 < 1073741824; decide), p5.new nb, by omega, fun v H' hv kp p' => ?_⟩
    · obtain ⟨x, y, z, hH, _⟩ := p5
      rw [e, hH] at nb
      cases nb
    · have e : ∃ j : Nat, v = .int (j : Int) ∧ j < 2 ^ n := by
        simp only [List.mem_cons, List.not_mem_nil, or_false] at hv
        rcases hv with rfl | rfl | rfl | rfl | rfl | rfl | rfl
        · exact ⟨0, rfl, by omega⟩
        · exact ⟨_, rfl, by omega⟩
        · exact ⟨_, rfl, b0⟩
        · exact ⟨_, rfl, Nat.lt_of_le_of_lt (Nat.sub_le _ _) (Nat.sub_lt h2n (by decide))⟩
        · exact ⟨_, rfl, Nat.or_lt_two_pow (Nat.or_lt_two_pow b0 b1) b2⟩
        · exact ⟨r1, rfl, by omega⟩
        · exact ⟨r2, rfl, by omega⟩
      obtain ⟨j, rfl, hj⟩ := e
      exact q j H' hj ((((((k1.trans k2).trans k3).trans k4).trans k5).new nb).trans kp) p'
end
end Bf
namespace Bf
open PySem PySem.Spec PyProof.Rows L2
/-! ### bits of a number -/
def bl (n h : Nat) : List Nat := (List.range n).filter (fun k => h.testBit k)
theorem bl_succ (n h : Nat) : bl (n + 1) h = bl n h ++ (if h.testBit n = true then [n] else []) := by
  unfold bl
  rw [List.range_succ, List.filter_append]
  cases e : h.testBit n <;> simp [e]
theorem bl_ext {n h : Nat} (hh : h < 2 ^ n) : ∀ d, bl (n + d) h = bl n h
  | 0 => rfl
  | d + 1 => by
    have e : h.testBit (n + d) = false := Nat.testBit_lt_two_pow (Nat.lt_of_lt_of_le hh (Nat.pow_le_pow_right (by decide) (Nat.le_add_right n d)))
    rw [← Nat.add_assoc, bl_succ, bl_ext hh d, e]
    simp
theorem bl_eq {n m h : Nat} (hn : h < 2 ^ n) (hm : h < 2 ^ m) : bl n h = bl m h := by
  rcases Nat.le_total n m with l | l
  · obtain ⟨d, rfl⟩ := Nat.exists_eq_add_of_le l
    exact (bl_ext hn d).symm
  · obtain ⟨d, rfl⟩ := Nat.exists_eq_add_of_le l
    exact bl_ext hm d
theorem bl_len (n h : Nat) : (bl n h).length ≤ n := by
  have := List.length_filter_le (fun k => h.testBit k) (List.range n)
  rw [List.length_range] at this
  exact this
theorem bl_mem {n h i : Nat} (hn : h < 2 ^ n) : i ∈ bl n h ↔ h.testBit i = true := by
  unfold bl
  rw [List.mem_filter, List.mem_range]
  constructor
  · exact fun z => z.2
  · intro z
    refine ⟨Nat.lt_of_not_le fun l => ?_, z⟩
    rw [Nat.testBit_lt_two_pow (Nat.lt_of_lt_of_le hn (Nat.pow_le_pow_right (by decide) l))] at z
    cases z
theorem bl_lt {n h i : Nat} (hi : i ∈ bl n h) : i < n := List.mem_range.mp (List.mem_filter.mp hi).1
def fb (ks : List Nat) : Nat := ks.foldl (fun h k => h ||| 2 ^ k) 0
theorem fold_bit (i : Nat) : ∀ (ks : List Nat) (h : Nat), (ks.foldl (fun h k => h ||| 2 ^ k) h).testBit i = (h.testBit i || decide (i ∈ ks))
  | [], h => by simp
  | k :: ks, h => by
    rw [List.foldl_cons, fold_bit i ks, Nat.testBit_or, Nat.testBit_two_pow, Bool.or_assoc]
    congr 1
    by_cases e : i = k
    · subst e; simp
    · have e2 : ¬ k = i := fun z => e z.symm
      simp [e, e2]
theorem fb_eq {ks : List Nat} {h : Nat} (hm : ∀ i, i ∈ ks ↔ h.testBit i = true) : fb ks = h := by
  refine Nat.eq_of_testBit_eq fun i => ?_
  unfold fb
  rw [fold_bit, Nat.zero_testBit, Bool.false_or]
  cases e : h.testBit i with
  | true => exact decide_eq_true ((hm i).mpr e)
  | false => exact decide_eq_false fun z => by rw [(hm i).mp z] at e; cases e
theorem fb_take {ks : List Nat} {i k : Nat} (h : ks[i]? = some k) : fb (ks.take (i + 1)) = fb (ks.take i) ||| 2 ^ k := by
  unfold fb
  rw [List.take_add_one, h]
  simp [List.foldl_append]
theorem fb_lt {ks : List Nat} {n : Nat} (hk : ∀ k ∈ ks, k < n) : fb ks < 2 ^ n := by
  refine Nat.lt_pow_two_of_testBit _ fun i hi => ?_
  unfold fb
  rw [fold_bit, Nat.zero_testBit, Bool.false_or]
  exact decide_eq_false fun z => by have := hk i z; omega
theorem intBits_nat {h : Nat} : h < 2 ^ (Builtin.Int.intBits (h : Int)) := by
  unfold Builtin.Int.intBits
  by_cases e : h = 0
  · subst e
    decide
  · rw [if_neg (by simpa using e)]
    have := Nat.lt_log2_self (n := h)
    simpa using this
theorem intBits_le60 {h n : Nat} (hh : h < 2 ^ n) : Builtin.Int.intBits (h : Int) ≤ n := PyProof.Rows.intBits_le (by simpa using hh)
/-! ### numbers as data -/
def nv (ns : List Nat) : List V := ns.map fun (n : Nat) => V.int (n : Int)
def nd' (ns : List Nat) : List PyData := ns.map fun (n : Nat) => PyData.int (n : Int)
theorem nv_at {ns : List Nat} {i n : Nat} (h : ns[i]? = some n) : (nv ns)[i]? = some (.int (n : Int)) := by
  unfold nv
  rw [List.getElem?_map, h]
  rfl
theorem nv_len (ns : List Nat) : (nv ns).length = ns.length := List.length_map ..
theorem dp_nv {K : PySem.W.Frag} {H : Hp} : ∀ ns : List Nat, DpAll K H (nv ns) (nd' ns)
  | [] => .nil
  | n :: ns => .cons (.int _) (dp_nv ns)
theorem nd_show : ∀ ns : List Nat, (∀ n ∈ ns, n < 2 ^ 61) → PyData.showableAll (nd' ns) = true
  | [], _ => rfl
  | n :: ns, h => by
    have h1 : n < 2 ^ 61 := h n List.mem_cons_self
    have e : n.log2 < 1920 := by
      by_cases z : n = 0
      · subst z; decide
      · exact Nat.lt_of_lt_of_le ((Nat.log2_lt z).mpr h1) (by decide)
    show (decide ((n : Int).natAbs.log2 < 1920) && PyData.showableAll (nd' ns)) = true
    rw [nd_show ns fun m hm => h m (List.mem_cons_of_mem _ hm), Bool.and_true]
    exact decide_eq_true (by simpa using e)
theorem nd_dict : ∀ ns : List Nat, PyData.hasDictAll (nd' ns) = false
  | [] => rfl
  | n :: ns => nd_dict ns
theorem nd_depth : ∀ ns : List Nat, PyData.depthAll (nd' ns) ≤ 1
  | [] => by simp [nd', PyData.depthAll]
  | n :: ns => by
    have := nd_depth ns
    show max _ (PyData.depthAll (nd' ns)) ≤ 1
    simp only [PyData.depth]
    omega
theorem nd_leaves : ∀ ns : List Nat, (∀ n ∈ ns, n < 2 ^ 61) → PyData.leavesShortAll 64 (nd' ns) = true
  | [], _ => rfl
  | n :: ns, h => by
    have h1 : n < 2 ^ 61 := h n List.mem_cons_self
    show (decide ((PyData.shown (.int (n : Int))).length ≤ 64) && PyData.leavesShortAll 64 (nd' ns)) = true
    rw [nd_leaves ns fun m hm => h m (List.mem_cons_of_mem _ hm), Bool.and_true]
    have h2 : (n : Int) < 10 ^ 19 := by omega
    exact decide_eq_true (Nat.le_trans (toString_length_le (v := (n : Int)) (by omega) (k := 19) (by decide) h2) (by decide))
theorem nd_weight : ∀ ns : List Nat, (∀ n ∈ ns, n < 2 ^ 61) → PyData.weightAll (nd' ns) ≤ 63 * ns.length
  | [], _ => Nat.le_refl _
  | n :: ns, h => by
    have h1 : n < 2 ^ 61 := h n List.mem_cons_self
    have ih := nd_weight ns fun m hm => h m (List.mem_cons_of_mem _ hm)
    have e : PyData.weight (.int (n : Int)) ≤ 62 := by
      simp only [PyData.weight]
      by_cases z : n = 0
      · subst z; decide
      · have := (Nat.log2_lt z).mpr h1
        rw [if_neg (by simpa using z)]
        simp
        omega
    show PyData.weight (.int (n : Int)) + 1 + PyData.weightAll (nd' ns) ≤ 63 * (ns.length + 1)
    omega
theorem nd_len {ns : List Nat} (h : ∀ n ∈ ns, n < 2 ^ 61) (hl : ns.length ≤ 1000) : (PyData.tuple (nd' ns)).shown.length ≤ sizeLine := by
  have h1 := PyData.shown_le 64 (by decide) (.tuple (nd' ns)) (nd_leaves ns h)
  have h2 : PyData.weight (.tuple (nd' ns)) ≤ 63 * ns.length := nd_weight ns h
  rw [sizeLine_eq]
  have h3 : (64 + 2) * PyData.weight (.tuple (nd' ns)) ≤ 66 * (63 * 1000) := Nat.mul_le_mul (by decide) (by omega)
  omega
end Bf
namespace Bf
open PySem PySem.Spec PyProof.Rows L2
abbrev sBits : Stmt := topS 1
abbrev sHas : Stmt := topS 2
abbrev sFrom : Stmt := topS 3
abbrev sHalved : Stmt := topS 11
abbrev sOrders : Stmt := topS 12
abbrev sLaw : Stmt := topS 13
theorem scHas : FnScope ["hand", "k"] ["hand", "k"] (defScope sHas) := ⟨rfl, rfl, rfl, by decide +kernel, rfl, by decide +kernel, by decide +kernel⟩
theorem scBits : FnScope ["hand", "k"] ["hand"] (defScope sBits) := ⟨rfl, rfl, rfl, by decide +kernel, rfl, by decide +kernel, by decide +kernel⟩
theorem scFrom : FnScope ["some", "hand", "k"] ["some"] (defScope sFrom) := ⟨rfl, rfl, rfl, by decide +kernel, rfl, by decide +kernel, by decide +kernel⟩
theorem scHalved : FnScope ["_law_one", "_law_found", "_law_place"] ["_law_one"] (defScope sHalved) := ⟨rfl, rfl, rfl, by decide +kernel, rfl, by decide +kernel, by decide +kernel⟩
theorem scOrders : FnScope ["_law_pot_here", "_law_row", "_law_mixed", "_law_k"] ["_law_pot_here", "_law_row"] (defScope sOrders) := ⟨rfl, rfl, rfl, by decide +kernel, rfl, by decide +kernel, by decide +kernel⟩
theorem scLaw : FnScope ["_law_script", "_law_k", "_law_pot_here", "_law_turn", "_law_one", "_law_due", "_law_row"] ["_law_script"] (defScope sLaw) := ⟨rfl, rfl, rfl, by decide +kernel, rfl, by decide +kernel, by decide +kernel⟩
section
variable {P : Program} {w : World} {K : PySem.W.Frag} {mg : Str → Option Value} {base : Heap} {f fT fO fF fH : Addr} {fd fdT fdO fdF fdH : FuncData} {k : Nat}
/-! ### has_bit -/
theorem op_shrNN {X : Cx} : OpR X (binaryOp .RShift) (fun x y H Q => ∃ n m : Nat, x = .int (n : Int) ∧ y = .int (m : Int) ∧ Q (.int ((n / 2 ^ m : Nat) : Int)) H) := by
  intro pins s σ H x y v u Q I rx ry h
  obtain ⟨n, m, rfl, rfl, q⟩ := h
  refine op_shrN pins s σ H _ _ v u Q I rx ry ⟨(n : Int), m, rfl, rfl, ?_⟩
  rw [Int.natCast_ediv, Int.natCast_pow] at q
  exact q
def spHas : Sp := fun vs H Q _ => ∃ h k : Nat, vs = [.int h, .int k] ∧ Q (.bl (h.testBit k)) H
theorem ok_has (F : Fun K "has_bit" "has_bit" sHas f fd) : FnOk P w K mg base CX0 (k + 1) f fd ["hand", "k"] spHas := by
  refine F.ok scHas (fun vs H Q E h => ?_) (fun cdv A outer s H vs Q E hr h => ?_)
  · obtain ⟨a, n, rfl, _⟩ := h
    rfl
  · obtain ⟨h, k, rfl, q⟩ := h
    refine ⟨_, pss_one (ps_ret (pe_cmpR op_eq (pe_op op_odd (pe_op op_shrNN (pv 0) (pv 1)) pe_int) pe_int (nomark _))), ?_⟩
    refine ⟨.int h, rfl, .int k, rfl, h, k, rfl, rfl, h / 2 ^ k, rfl, rfl, rfl, ?_⟩
    have e : decide (V.int ((h / 2 ^ k % 2 : Nat) : Int) = V.int 1) = h.testBit k := by
      rw [Nat.testBit_eq_decide_div_mod_eq, dec_int]
      by_cases z : h / 2 ^ k % 2 = 1
      · rw [decide_eq_true z, z]; rfl
      · rw [decide_eq_false z]
        exact beq_eq_false_iff_ne.mpr (by omega)
    show Q (.bl (decide (V.int ((h / 2 ^ k % 2 : Nat) : Int) = V.int 1))) H
    rw [e]
    exact q
/-! ### bits -/
def spBits (K : PySem.W.Frag) : Sp := fun vs H Q _ => ∃ h : Nat, vs = [.int h] ∧ h < 2 ^ 60 ∧ ∀ H' p, Same H H' → H p = none → H' p = some (.tup (nv (bl 60 h))) → Q (.ref p) H'
theorem ok_bits (F : Fun K "bits" "bits" sBits f fd) (GH : FnOk P w K mg base CX0 1 fH fdH ["hand", "k"] spHas) (kH : PySem.W.keepIn K (.ref fH) = true) (bH : Binds K fdH ["hand", "k"] []) (gH : mg "has_bit" = some (.ref fH)) (mt : mg "tuple" = none) (mr : mg "range" = none) :
    FnOk P w K mg base CX0 2 f fd ["hand"] (spBits K) := by
  refine F.ok scBits (fun vs H Q E h => ?_) (fun cdv A outer s H vs Q E hr h => ?_)
  · obtain ⟨a, rfl, _⟩ := h
    rfl
  · obtain ⟨h, rfl, h60, q⟩ := h
    refine ⟨_, pss_one (ps_ret (pe_callTy call_tuple_of (by rfl) mt (by decide +kernel) (pa_cons (pe_lc (own := [("k", 1)]) (g := gName 1) (by rfl) scBits.nd (pi_range1 (by rfl) mr (pa_cons (pe_bits (pv 0)) pa_nil))
      (blkOk_by (own := [("k", 1)]) (N := ["hand", "k"]) (sc := defScope sBits) (by decide +kernel)) (fun _ _ _ _ _ => pg_name (i := 1) scBits.nd rfl (Or.inl rfl))
      (fun _ _ _ _ _ => pts_one (pt_val (pe_call GH hr (by rfl) gH kH bH .nil pass0 (pa_cons (pv 0) (pa_cons (pv 1) pa_nil))))) (fun _ _ _ _ _ => pv 1)) pa_nil))), ?_⟩
    have hn : Builtin.Int.intBits (h : Int) ≤ 60 := intBits_le60 h60
    have hb := intBits_nat (h := h)
    refine ⟨.int h, rfl, h, rfl, _, rfl, (by omega), (by omega), fun D nD => lc_range (lo := 0) (n := Builtin.Int.intBits (h : Int)) (fun i H' => Same H H' ∧ H' D = some (.lst (nv (bl i h)))) ⟨same_new (Same.refl H) nD, upd_same⟩ ?_ ?_⟩
    · rintro i H1 hi ⟨sm, eD⟩
      refine ⟨rfl, .int h, rfl, .int (0 + i), rfl, h, i, by rw [Int.zero_add]; rfl, _, rfl, ite2 (fun e => ?_) (fun e => ?_)⟩
      · refine ⟨_, rfl, _, eD, ?_, fun b o z => ?_, ?_⟩
        · rw [nv_len]
          exact Nat.lt_of_le_of_lt (Nat.le_trans (bl_len i h) (by omega : i ≤ 60)) (by decide)
        · have e1 := sm b o z
          rw [upd_ne (ne_of_none z nD)]
          exact e1
        · rw [upd_same, bl_succ, e, Int.zero_add]
          simp [nv]
      · refine ⟨sm, ?_⟩
        rw [eD, bl_succ]
        simp [e]
    · rintro H1 ⟨sm, eD⟩
      refine ⟨D, _, rfl, .inl ⟨.inl (.inl eD), fun p np => ?_⟩⟩
      refine q _ p (same_new sm np) (sm.free np) ?_
      rw [upd_same, bl_eq hb h60]
/-! ### from_bits -/
def spFrom (K : PySem.W.Frag) : Sp := fun vs H Q _ => ∃ (a : Addr) (ks : List Nat), vs = [.ref a] ∧ SqT K H a (nv ks) ∧ (∀ k ∈ ks, k < 1000) ∧ Q (.int (fb ks : Nat)) H
theorem iop_orN {X : Cx} : OpR X (inplaceOp .BitOr) (fun x y H Q => ∃ n m : Nat, x = .int (n : Int) ∧ y = .int (m : Int) ∧ Q (.int ((n ||| m : Nat) : Int)) H) := by
  intro pins s σ H x y v u Q I rx ry h
  obtain ⟨n, m, rfl, rfl, q⟩ := h
  refine iop_or pins s σ H _ _ v u Q I rx ry ⟨(n : Int), (m : Int), rfl, rfl, ?_⟩
  show Q (.int (Builtin.bitOr (n : Int) (m : Int))) H
  rw [bitOr_nn (Int.natCast_nonneg n) (Int.natCast_nonneg m)]
  exact q
theorem ok_from (F : Fun K "from_bits" "from_bits" sFrom f fd) : FnOk P w K mg base CX0 (k + 1) f fd ["some"] (spFrom K) := by
  refine F.ok scFrom (fun vs H Q E h => ?_) (fun cdv A outer s H vs Q E hr h => ?_)
  · obtain ⟨a, n, rfl, _⟩ := h
    rfl
  · obtain ⟨a, ks, rfl, hT, hk, q⟩ := h
    refine ⟨_, pss_cons (ps_set (i := 1) scFrom.nd rfl (.inl rfl) pe_int) (pss_cons (ps_for PassesOwn.never rfl (pi_tup (pv 0)) (pg_name (i := 2) scFrom.nd rfl (.inl rfl)) (pss_one (ps_aug (i := 1) scFrom.nd rfl (.inl rfl) (pe_op op_bit pe_int (pv 2)) iop_orN)))
      (pss_one (ps_ret (pv 1)))), ?_⟩
    refine ⟨.ref a, rfl, a, rfl, ⟨_, hT⟩, for_tup (xs := nv ks) (fun i σ H' => ∃ y, σ = [some (.ref a), some (.int (fb (ks.take i) : Nat)), y] ∧ H' = H) ⟨none, rfl, rfl⟩ (fun i σ H' _ hp => ?_) (fun i x σ H' hx hp => ?_) (fun σ H' hp => ?_)⟩
    · obtain ⟨y, _, rfl⟩ := hp
      exact hT
    · obtain ⟨y, rfl, rfl⟩ := hp
      obtain ⟨kk, hkk, rfl⟩ : ∃ kk, ks[i]? = some kk ∧ V.int (kk : Int) = x := by
        unfold nv at hx
        rw [List.getElem?_map] at hx
        cases e : ks[i]? with
        | none => rw [e] at hx; cases hx
        | some z => rw [e] at hx; exact ⟨z, rfl, Option.some.inj hx⟩
      have hlt : kk < 1000 := hk kk (List.mem_of_getElem? hkk)
      refine ⟨_, rfl, .int kk, rfl, kk, rfl, rfl, by omega, fb (ks.take i), 2 ^ kk, rfl, rfl, some (.int kk), ?_, rfl⟩
      rw [fb_take hkk]
      rfl
    · obtain ⟨y, rfl, rfl⟩ := hp
      refine ⟨_, rfl, ?_⟩
      rw [nv_len, List.take_length]
      exact q
/-! ### halved -/
def spHalved (K : PySem.W.Frag) : Sp := fun vs H Q _ => ∃ h : Nat, vs = [.int h] ∧ h < 2 ^ 60 ∧ ∀ H' p, Same H H' → H p = none → H' p = some (.tup (nv (bl 60 h))) → Q (.ref p) H'
def HvP (H : Hp) (D : Addr) (h : Nat) (σ : L2.St) (H' : Hp) : Prop := ∃ i : Nat, i ≤ 60 ∧ σ = [some (.int ((h / 2 ^ i : Nat) : Int)), some (.ref D), some (.int (i : Int))] ∧ Same H H' ∧ H' D = some (.lst (nv (bl i h)))
def HvM (σ : L2.St) (_ : Hp) : Nat := match σ with | some (V.int z) :: _ => z.toNat | _ => 0
theorem ok_halved (F : Fun K "_law_halved" "_law_halved" sHalved f fd) (mt : mg "tuple" = none) : FnOk P w K mg base CX0 (k + 1) f fd ["_law_one"] (spHalved K) := by
  refine F.ok scHalved (fun vs H Q E h => ?_) (fun cdv A outer s H vs Q E hr h => ?_)
  · obtain ⟨a, rfl, _⟩ := h
    rfl
  · obtain ⟨h, rfl, h60, q⟩ := h
    refine ⟨_, pss_cons (ps_par (i := 1) (j := 2) (by rfl) scHalved.nd rfl rfl (by decide) rfl rfl (pa_cons (pe_lst pa_nil) (pa_cons pe_int pa_nil)) (by rfl))
      (pss_cons (ps_while PassesOwn.never (pt_cmpR op_gt (pv 0) pe_int (nomark _))
        (pss_cons (ps_if (pt_cmpR op_eq (pe_op op_mod (pv 0) pe_int) pe_int (nomark _)) (pss_one (ps_expr (pe_bm PySem.F.plainAttrs_list PySem.F.slot_list_append PySem.F.type_list_append mt_append (pv 1) (pa_cons (pv 2) pa_nil)))) pss_nil)
        (pss_one (ps_par (i := 0) (j := 2) (by rfl) scHalved.nd rfl rfl (by decide) rfl rfl (pa_cons (pe_op op_fdivNN (pv 0) pe_int) (pa_cons (pe_op op_addN (pv 2) pe_int) pa_nil)) (by rfl)))))
      (pss_one (ps_ret (pe_callTy call_tuple_of (by rfl) mt (by decide +kernel) (pa_cons (pv 1) pa_nil))))), ?_⟩
    refine ⟨Nat.zero_le _, fun D nD => ⟨_, _, rfl, ?_⟩⟩
    refine while_by (HvP H D h) HvM ?_ ?_ ?_
    · exact ⟨0, by decide, by rw [Nat.pow_zero, Nat.div_one]; rfl, same_new (Same.refl H) nD, upd_same⟩
    · rintro σ H1 ⟨i, hi, rfl, sm, eD⟩
      refine ⟨_, rfl, _, _, rfl, rfl, _, rfl, ite2 (fun e => ?_) (fun e => ?_)⟩
      · have e1 : (0 : Int) < ((h / 2 ^ i : Nat) : Int) := of_decide_eq_true e
        have hi2 : i < 60 := Nat.lt_of_not_le fun l => by
          have : h / 2 ^ i = 0 := Nat.div_eq_of_lt (Nat.lt_of_lt_of_le h60 (Nat.pow_le_pow_right (by decide) l))
          omega
        have hbit : decide (V.int (((h / 2 ^ i : Nat) : Int) % 2) = V.int 1) = h.testBit i := by
          rw [Nat.testBit_eq_decide_div_mod_eq, dec_int]
          by_cases z : h / 2 ^ i % 2 = 1
          · rw [decide_eq_true z]
            exact beq_iff_eq.mpr (by omega)
          · rw [decide_eq_false z]
            exact beq_eq_false_iff_ne.mpr (by omega)
        have go : ∀ H2, Same H H2 → H2 D = some (.lst (nv (bl (i + 1) h))) → HvP H D h [some (.int ((h / 2 ^ i / 2 : Nat) : Int)), some (.ref D), some (.int ((i + 1 : Nat) : Int))] H2 ∧
            HvM [some (.int ((h / 2 ^ i / 2 : Nat) : Int)), some (.ref D), some (.int ((i + 1 : Nat) : Int))] H2 < HvM [some (.int ((h / 2 ^ i : Nat) : Int)), some (.ref D), some (.int (i : Int))] H1 := fun H2 s2 e2 => by
          refine ⟨⟨i + 1, hi2, ?_, s2, e2⟩, ?_⟩
          · rw [Nat.pow_succ, ← Nat.div_div_eq_div_mul]
          · show h / 2 ^ i / 2 < h / 2 ^ i
            omega
        refine ⟨_, rfl, _, _, rfl, rfl, (show (0 : Int) < 2 by decide), rfl, _, rfl, ite2 (fun e2 => ?_) (fun e2 => ?_)⟩
        · refine ⟨.ref D, rfl, .inl ⟨rfl, _, .inl (.inl eD)⟩, .int i, rfl, D, _, _, rfl, rfl, eD, ?_, ?_⟩
          · rw [nv_len]
            exact Nat.lt_of_le_of_lt (Nat.le_trans (bl_len i h) (by omega : i ≤ 60)) (by decide)
          · refine ⟨_, rfl, h / 2 ^ i, 2, rfl, rfl, ⟨by decide, by decide⟩, _, rfl, i, 1, rfl, rfl, _, _, rfl, go _ (fun b o z => ?_) ?_⟩
            · rw [upd_ne (ne_of_none z nD)]
              exact sm b o z
            · have e3 : h.testBit i = true := hbit.symm.trans e2
              rw [upd_same, bl_succ, e3]
              simp [nv]
        · refine ⟨_, rfl, h / 2 ^ i, 2, rfl, rfl, ⟨by decide, by decide⟩, _, rfl, i, 1, rfl, rfl, _, _, rfl, go _ sm ?_⟩
          have e3 : ¬ h.testBit i = true := fun z => e2 (hbit.trans z)
          rw [eD, bl_succ]
          simp [e3]
      · have e1 : ¬ (0 : Int) < ((h / 2 ^ i : Nat) : Int) := fun z => e (decide_eq_true z)
        have hlt : h < 2 ^ i := by
          have : h / 2 ^ i = 0 := Nat.eq_zero_of_not_pos fun z => e1 (Int.ofNat_lt.mpr z)
          exact (Nat.div_eq_zero_iff.mp this).resolve_left (by have := Nat.one_le_two_pow (n := i); omega)
        refine ⟨.ref D, rfl, D, _, rfl, .inl ⟨.inl (.inl eD), fun p np => ?_⟩⟩
        refine q _ p (same_new sm np) (sm.free np) ?_
        rw [upd_same, bl_eq hlt h60]
    · rintro σ H1 Q1 Q2 hQ ⟨x, e1, i, j, e2, e3, k, e4, z⟩
      exact ⟨x, e1, i, j, e2, e3, k, e4, hQ _ _ z⟩
/-! ### tuples that expressions give -/
theorem sameT {H H' : Hp} {a : Addr} {xs : List V} (e : Same H H') (h : SqT K H a xs) : SqT K H' a xs := by
  rcases h with (h | ⟨o, h⟩) | h
  · exact .inl (.inl (e _ _ h))
  · exact .inl (.inr ⟨o, e _ _ h⟩)
  · exact .inr h
def GT (K : PySem.W.Frag) (t : TE) (σ : L2.St) (H : Hp) (vs : List V) : Prop := ∀ H1, Same H H1 → ∀ Q : VK, (∀ H2 x, Same H1 H2 → SqT K H2 x vs → Q (.ref x) H2) → t σ H1 Q
theorem gt_var {i : Nat} {σ : L2.St} {H : Hp} {b : Addr} {vs : List V} (h : SqT K H b vs) (hi : σ[i]? = some (some (.ref b))) : GT K (tVar i) σ H vs := fun H1 s Q q => ⟨_, hi, q H1 b (Same.refl _) (sameT s h)⟩
theorem gt_rev {te : TE} {σ : L2.St} {H : Hp} {vs : List V} (h : GT K te σ H vs) : GT K (tRevT K te) σ H vs.reverse := fun H1 s Q q => h H1 s _ fun H2 x s2 hx =>
  ⟨x, vs, rfl, hx, fun p np => q _ p (same_new s2 np) (.inl (.inl upd_same))⟩
theorem gt_tup {te : TE} {σ : L2.St} {H : Hp} {i : Nat} {b : Addr} {vs : List V} (h : SqL K H b vs) (hi : σ[i]? = some (some (.ref b))) :
    GT K (tCB (fun xs H Q => ∃ p ys, xs = [.ref p] ∧ ((SqL K H p ys ∧ ∀ l, H l = none → Q (.ref l) (upd H l (.tup ys))) ∨ (SqT K H p ys ∧ Q (.ref p) H))) (tCons (tVar i) tNil)) σ H vs := fun H1 s Q q =>
  ⟨_, hi, b, vs, rfl, .inl ⟨s.seq h, fun p np => q _ p (same_new (Same.refl _) np) (.inl (.inl upd_same))⟩⟩
theorem gt_cut {te : TE} {σ : L2.St} {H : Hp} {vs : List V} {n : Nat} (h : GT K te σ H vs) : GT K (tSl (rSlA K) te tNoPart (tPart (tC (.int (n : Int))))) σ H (vs.take n) := fun H1 s Q q => h H1 s _ fun H2 x s2 hx => by
  refine ⟨_, rfl, x, vs, rfl, hx, fun w => ?_, fun w p np => ?_⟩
  · have e : vs.take n = vs := List.take_of_length_le (by
      have := w.2
      rw [HT.sIx_nat] at this
      omega)
    exact q H2 x s2 (by rw [e]; exact hx)
  · have e : cutV vs none (some (n : Int)) = vs.take n := by
      unfold cutV
      rw [HT.sIx_none, HT.sIx_nat, List.drop_zero, Nat.sub_zero]
      rcases Nat.le_total n vs.length with l | l
      · rw [Nat.min_eq_left l]
      · rw [Nat.min_eq_right l, List.take_of_length_le l, List.take_length]
    rw [e]
    exact q _ p (same_new s2 np) (.inl (.inl upd_same))
theorem gt_cat {ta tb : TE} {σ : L2.St} {H : Hp} {xs ys : List V} (ha : GT K ta σ H xs) (hb : GT K tb σ H ys) (hz : xs.length + ys.length ≤ sizeLine) : GT K (tOp (rCatA K) ta tb) σ H (xs ++ ys) := fun H1 s Q q => ha H1 s _ fun H2 x s2 hx =>
  hb H2 (s.trans s2) _ fun H3 y s3 hy => by
    refine ⟨x, y, xs, ys, rfl, rfl, sameT s3 hx, hy, hz, fun e => ?_, fun _ e => ?_, fun _ _ p np => ?_⟩
    · exact q H3 y (s2.trans s3) (by rw [e]; exact hy)
    · exact q H3 x (s2.trans s3) (by rw [e, List.append_nil]; exact sameT s3 hx)
    · exact q _ p (same_new (s2.trans s3) np) (.inl (.inl upd_same))
theorem gt_rep {ta : TE} {σ : L2.St} {H : Hp} {xs : List V} {n : Nat} (ha : GT K ta σ H xs) (h2 : 2 ≤ n) (h1 : n ≤ 1000) (hz : xs.length ≤ 1000) : GT K (tOp (rRepA K) ta (tC (.int (n : Int)))) σ H (List.replicate n xs).flatten := fun H1 s Q q => ha H1 s _ fun H2 x s2 hx => by
  refine ⟨x, n, xs, rfl, rfl, hx, by omega, by omega, hz, fun e => ?_, fun _ p np => ?_⟩
  · have e2 : (List.replicate n xs).flatten = xs := by
      subst e
      simp
    exact q H2 x s2 (by rw [e2]; exact hx)
  · exact q _ p (same_new s2 np) (.inl (.inl upd_same))
theorem nv_rev (ks : List Nat) : (nv ks).reverse = nv ks.reverse := by unfold nv; rw [List.map_reverse]
theorem nv_take (ks : List Nat) (n : Nat) : (nv ks).take n = nv (ks.take n) := by unfold nv; rw [List.map_take]
theorem nv_app (ks js : List Nat) : nv ks ++ nv js = nv (ks ++ js) := by unfold nv; rw [List.map_append]
theorem nv_rep (ks : List Nat) (n : Nat) : (List.replicate n (nv ks)).flatten = nv (List.replicate n ks).flatten := by unfold nv; rw [List.map_flatten, List.map_replicate]
theorem mem_rep {ks : List Nat} {n x : Nat} : x ∈ (List.replicate (n + 1) ks).flatten ↔ x ∈ ks := by
  constructor
  · intro h
    obtain ⟨l, hl, hx⟩ := List.mem_flatten.mp h
    rw [List.eq_of_mem_replicate hl] at hx
    exact hx
  · exact fun h => List.mem_flatten.mpr ⟨ks, List.mem_replicate.mpr ⟨by omega, rfl⟩, h⟩
/-! ### orders -/
def spOrders (K : PySem.W.Frag) : Sp := fun vs H Q _ => ∃ (a b : Addr) (ks : List Nat) (m : Nat), vs = [.ref a, .ref b] ∧ (∀ H', Keeps a H H' → SqT K H' b (nv ks)) ∧ ks.length ≤ 60 ∧ Pot H a m ∧ m < 50000 ∧
  ∀ H' p (ts : List Addr), Keeps a H H' → Pot H' a (m + 60) → H p = none → H' p = some (.lst (ts.map V.ref)) → (∀ t ∈ ts, ∃ rs : List Nat, SqT K H' t (nv rs) ∧ ∀ x, x ∈ rs ↔ x ∈ ks) → Q (.ref p) H'
theorem ok_orders (F : Fun K "_law_orders" "_law_orders" sOrders f fd) (GT' : FnOk P w K mg base CX0 1 fT fdT ["_law_pot_here", "_law_size_here"] spTake) (kT : PySem.W.keepIn K (.ref fT) = true) (bT : Binds K fdT ["_law_pot_here", "_law_size_here"] []) (gT : mg "_law_take" = some (.ref fT)) (ml : mg "len" = none) (mt : mg "tuple" = none) :
    FnOk P w K mg base CX0 2 f fd ["_law_pot_here", "_law_row"] (spOrders K) := by
  refine F.ok scOrders (fun vs H Q E h => ?_) (fun cdv A outer s H vs Q E hr h => ?_)
  · obtain ⟨a, b, ks, m, rfl, _⟩ := h
    rfl
  · obtain ⟨a, b, ks, m, rfl, hT, hl, hp, hm, q⟩ := h
    refine ⟨_, pss_cons (ps_set (i := 2) scOrders.nd rfl (.inl rfl) (pe_lst pa_nil))
      (pss_cons (ps_for PassesOwn.never rfl (pi_tup (pv 1)) (pg_name (i := 3) scOrders.nd rfl (.inl rfl)) (pss_one (ps_expr (pe_bm PySem.F.plainAttrs_list PySem.F.slot_list_insert PySem.F.type_list_insert mt_insert (pv 2)
        (pa_cons (pe_call GT' hr (by rfl) gT kT bT .nil pass0 (pa_cons (pv 0) (pa_cons (pe_op op_addN (pe_callB call_len_seq (by rfl) ml PySem.boot_len (pa_cons (pv 2) pa_nil)) pe_int) pa_nil))) (pa_cons (pv 3) pa_nil))))))
      (pss_one (ps_ret (pe_lst (pa_cons (pv 1) (pa_cons (pe_revT (pv 1)) (pa_cons (pe_callTy call_tuple_of (by rfl) mt (by decide +kernel) (pa_cons (pv 2) pa_nil))
        (pa_cons (pe_op op_catA (pe_callTy call_tuple_of (by rfl) mt (by decide +kernel) (pa_cons (pv 2) pa_nil)) (pe_slice sl_tupA (pv 1) po_none (po_some pe_int)))
        (pa_cons (pe_op op_repA (pv 1) pe_int)
        (pa_cons (pe_op op_catA (pe_op op_repA (pe_slice sl_tupA (pv 1) po_none (po_some pe_int)) pe_int) (pe_callTy call_tuple_of (by rfl) mt (by decide +kernel) (pa_cons (pv 2) pa_nil))) pa_nil)))))))))), ?_⟩
    refine ⟨Nat.zero_le _, fun D nD => ?_⟩
    have hDa : D ≠ a := fun e => by
      obtain ⟨x, y, z, hH, _⟩ := hp
      rw [e, hH] at nD
      cases nD
    refine ⟨.ref b, rfl, b, rfl, ⟨_, hT _ ((Keeps.refl a H).new nD)⟩, for_tup (xs := nv ks) (fun i σ H' => ∃ y ms, σ = [some (.ref a), some (.ref b), some (.ref D), y] ∧ ms.length = i ∧ (∀ x, x ∈ ms ↔ x ∈ ks.take i) ∧ H' D = some (.lst (nv ms)) ∧ Keeps a H H' ∧ Pot H' a (m + i)) ?_ ?_ ?_ ?_⟩
    · exact ⟨none, [], rfl, rfl, fun x => Iff.rfl, upd_same, (Keeps.refl a H).new nD, hp.new nD⟩
    · rintro i σ H1 hi ⟨y, ms, _, _, _, _, kp, _⟩
      exact hT H1 kp
    · rintro i x σ H1 hx ⟨y, ms, rfl, hms, hmem, eD, kp, pp⟩
      obtain ⟨kk, hkk, rfl⟩ : ∃ kk, ks[i]? = some kk ∧ V.int (kk : Int) = x := by
        unfold nv at hx
        rw [List.getElem?_map] at hx
        cases e : ks[i]? with
        | none => rw [e] at hx; cases hx
        | some z => rw [e] at hx; exact ⟨z, rfl, Option.some.inj hx⟩
      have hi : i < ks.length := (List.getElem?_eq_some_iff.mp hkk).1
      refine ⟨.ref D, rfl, .inl ⟨rfl, _, .inl (.inl eD)⟩, .ref a, rfl, .ref D, rfl, D, _, rfl, .inl (.inl (.inl eD)), (nv ms).length, 1, rfl, rfl, a, (nv ms).length + 1, m + i, rfl, by omega, by rw [nv_len]; omega, pp, by omega, fun r H2 lr k2 p2 => ?_⟩
      have eD2 : H2 D = some (.lst (nv ms)) := k2 D _ hDa eD
      refine ⟨_, rfl, D, _, (r : Int), _, rfl, rfl, eD2, by rw [nv_len]; exact Nat.lt_of_lt_of_le (by omega : ms.length < 61) (by decide), by omega, by rw [nv_len] at lr; omega, ?_⟩
      have e5 : (nv ms).take (r : Int).toNat ++ [V.int (kk : Int)] ++ (nv ms).drop (r : Int).toNat = nv (ms.take r ++ [kk] ++ ms.drop r) := by
        unfold nv
        rw [List.map_append, List.map_append, List.map_take, List.map_drop]
        rfl
      refine ⟨some (.int kk), ms.take r ++ [kk] ++ ms.drop r, rfl, ?_, fun x => ?_, by rw [upd_same, e5], fun c o nc z => ?_, ?_⟩
      · rw [nv_len] at lr
        rw [List.length_append, List.length_append, List.length_take, List.length_drop, List.length_singleton]
        omega
      · rw [List.take_add_one, hkk, List.mem_append, List.mem_append, List.mem_append, ← hmem x]
        have : x ∈ ms ↔ x ∈ ms.take r ∨ x ∈ ms.drop r := by
          rw [← List.mem_append, List.take_append_drop]
        simp only [List.mem_singleton, Option.toList]
        rw [this]
        constructor
        · rintro ((h | h) | h)
          · exact .inl (.inl h)
          · exact .inr h
          · exact .inl (.inr h)
        · rintro ((h | h) | h)
          · exact .inl (.inl h)
          · exact .inr h
          · exact .inl (.inr h)
      · rw [upd_ne (ne_of_none z nD)]
        exact k2 c o nc (kp c o nc z)
      · obtain ⟨x, y, z, hH, hh⟩ := p2
        exact ⟨x, y, z, by rw [upd_ne hDa.symm]; exact hH, hh⟩
    · rintro σ H1 ⟨y, ms, rfl, hms, hmem, eD, kp, pp⟩
      rw [nv_len, List.take_length] at hmem
      rw [nv_len] at hms pp
      have hb : SqT K H1 b (nv ks) := hT H1 kp
      have hD : SqL K H1 D (nv ms) := .inl (.inl eD)
      have z1 : (nv ms).length ≤ 60 := by rw [nv_len]; omega
      have z2 : ∀ n, ((nv ks).take n).length ≤ 60 := fun n => by rw [List.length_take, nv_len]; omega
      refine ⟨.ref b, rfl, ?_⟩
      refine gt_rev (gt_var hb rfl) H1 (Same.refl _) _ fun H2 x2 s2 h2 => ?_
      refine gt_tup (te := tVar 0) hD rfl H2 s2 _ fun H3 x3 s3 h3 => ?_
      have t3 := s2.trans s3
      refine gt_cat (gt_tup (te := tVar 0) hD rfl) (gt_cut (n := 2) (gt_var hb rfl)) (by have := z2 2; rw [sizeLine_eq]; omega) H3 t3 _ fun H4 x4 s4 h4 => ?_
      have t4 := t3.trans s4
      refine gt_rep (n := 2) (gt_var hb rfl) (by decide) (by decide) (by rw [nv_len]; omega) H4 t4 _ fun H5 x5 s5 h5 => ?_
      have t5 := t4.trans s5
      refine gt_cat (gt_rep (n := 3) (gt_cut (n := 1) (gt_var hb rfl)) (by decide) (by decide) (by have := z2 1; omega)) (gt_tup (te := tVar 0) hD rfl) ?_ H5 t5 _ fun H6 x6 s6 h6 => ?_
      · rw [PyProof.Rows.lm_len_rep_flat, sizeLine_eq]
        have := z2 1
        omega
      have t6 := t5.trans s6
      refine ⟨(by show 6 ≤ sizeLine; decide), fun p np => ?_⟩
      have sp : Same H6 (upd H6 p (.lst [.ref b, .ref x2, .ref x3, .ref x4, .ref x5, .ref x6])) := same_new (Same.refl _) np
      have npH : H p = none := by
        cases e : H p with
        | none => rfl
        | some o =>
          by_cases ea : p = a
          · obtain ⟨x, y, z, hH, _⟩ := pp
            rw [ea, t6 _ _ hH] at np
            cases np
          · rw [t6 _ _ (kp p o ea e)] at np
            cases np
      refine q _ p [b, x2, x3, x4, x5, x6] ((kp.trans (Keeps.of_same t6)).new np) (((pp.same t6).new np).up (by omega)) npH upd_same ?_
      intro t ht
      simp only [List.mem_cons, List.not_mem_nil, or_false] at ht
      rcases ht with rfl | rfl | rfl | rfl | rfl | rfl
      · exact ⟨ks, sameT (t6.trans sp) hb, fun x => Iff.rfl⟩
      · rw [nv_rev] at h2
        exact ⟨_, sameT ((((s3.trans s4).trans s5).trans s6).trans sp) h2, fun x => List.mem_reverse⟩
      · exact ⟨ms, sameT (((s4.trans s5).trans s6).trans sp) h3, hmem⟩
      · rw [nv_take, nv_app] at h4
        refine ⟨_, sameT ((s5.trans s6).trans sp) h4, fun x => ?_⟩
        rw [List.mem_append, hmem x]
        exact ⟨fun z => z.elim id fun y => List.mem_of_mem_take y, .inl⟩
      · rw [nv_rep] at h5
        exact ⟨_, sameT (s6.trans sp) h5, fun x => mem_rep (n := 1)⟩
      · rw [nv_take, nv_rep, nv_app] at h6
        refine ⟨_, sameT sp h6, fun x => ?_⟩
        rw [List.mem_append, hmem x]
        exact ⟨fun z => z.elim (fun y => List.mem_of_mem_take (mem_rep (n := 2) |>.mp y)) id, .inr⟩
/-! ### the law -/
theorem same_keeps {H H0 H' : Hp} {p : Addr} (hp : H p = none) (s : Same H H0) (k : Keeps p H0 H') : Same H H' := fun b o e => k b o (ne_of_none e hp) (s b o e)
theorem dp_tup {H : Hp} {a : Addr} {ns : List Nat} (h : SqT K H a (nv ns)) : Dp K H (.ref a) (.tuple (nd' ns)) := .tup h (dp_nv ns)
theorem nd_canAll : ∀ ns : List Nat, PyData.canLayAll0 (nd' ns) = true
  | [] => rfl
  | n :: ns => nd_canAll ns
theorem nd_can (ns : List Nat) : PyData.canLay0 (.tuple (nd' ns)) = true := nd_canAll ns
theorem nd_dep (ns : List Nat) : PyData.depth (.tuple (nd' ns)) ≤ 2 := by
  have := nd_depth ns
  show PyData.depthAll (nd' ns) + 1 ≤ 2
  omega
theorem nd_shaped (ns : List Nat) : SeqAt.shaped (.tuple (nd' ns)) = true := by
  unfold SeqAt.shaped
  rw [nd_can, Bool.true_and]
  exact decide_eq_true (Nat.le_trans (nd_dep ns) (by decide))
theorem bl_small {n h i : Nat} (hn : n ≤ 60) (hi : i ∈ bl n h) : i < 2 ^ 61 := Nat.lt_trans (Nat.lt_of_lt_of_le (bl_lt hi) hn) (by decide)
theorem log_small {n : Nat} (h : n < 2 ^ 61) : (n : Int).natAbs.log2 < 1920 := by
  by_cases z : n = 0
  · subst z; decide
  · have := (Nat.log2_lt z).mpr h
    simpa using (Nat.lt_of_lt_of_le this (by decide) : n.log2 < 1920)
theorem kb1 {x n : Str} {st : Stmt} (F : Fun K x x st f fd) (h1 : ∀ (kV doc pm : Value) (an : Option Addr) (cdv ct u : Value), bindArgs (PySem.W.fnOf x x (defArgs st) (defBody st) (defScope st) .none kV doc pm an cdv ct) ⟨[], [(n, u)]⟩ = pure [(n, u)])
    (h2 : ∀ (kV doc pm : Value) (an : Option Addr) (cdv ct u : Value), bindArgs (PySem.W.fnOf x x (defArgs st) (defBody st) (defScope st) .none kV doc pm an cdv ct) ⟨[u], []⟩ = pure [(n, u)]) : KBinds K fd [n] [n] (fun us ws => us ++ ws) (fun vs zs => vs ++ zs) := by
  obtain ⟨oc, od, kV, doc, pm, an, cdv, ct, osl, rfl, lk, hcd⟩ := F.ex
  refine ⟨fun s us ws _ hl => ?_, fun r1 r2 => r1.append r2⟩
  match us, ws, hl with
  | [], [u], _ => exact .of_eq (h1 kV doc pm an cdv ct u)
  | [u], [], _ => exact .of_eq (h2 kV doc pm an cdv ct u)
  | [], [], hl => cases hl
  | [], _ :: _ :: _, hl => exact absurd (Nat.succ.inj hl) (by simp)
  | [_], _ :: _, hl => exact absurd (Nat.succ.inj hl) (by simp)
  | _ :: _ :: _, _, hl => exact absurd (Nat.succ.inj hl) (by simp)
structure Lw (K : PySem.W.Frag) (mg : Str → Option Value) (fB fFr fP fT fS fPe fHa fOr : Addr) : Prop where
  gB : mg "bits" = some (.ref fB)
  gFr : mg "from_bits" = some (.ref fFr)
  gP : mg "_law_pot" = some (.ref fP)
  gS : mg "_law_size" = some (.ref fS)
  gPe : mg "_law_person" = some (.ref fPe)
  gHa : mg "_law_halved" = some (.ref fHa)
  gOr : mg "_law_orders" = some (.ref fOr)
  len : mg "len" = none
  rng : mg "range" = none
  mx : mg "max" = none
  mn : mg "min" = none
  rp : mg "repr" = none
  tp : mg "tuple" = none
def spLaw (K : PySem.W.Frag) : Sp := fun vs H Q _ => ∃ (a : Addr) (ns : List Int), vs = [.ref a] ∧ SqL K H a (ns.map V.int) ∧ ns.length ≤ 63 ∧ ∀ H', Q (.bl true) H'
theorem ok_law {fB fFr fP fS fPe fHa fOr : Addr} {fdB fdFr fdP fdS fdPe fdHa fdOr : FuncData} (F : Fun K "law" "law" sLaw f fd) (T : Lw K mg fB fFr fP fT fS fPe fHa fOr)
    (GB : FnOk P w K mg base CX0 2 fB fdB ["hand"] (spBits K)) (kB : PySem.W.keepIn K (.ref fB) = true) (bB : Binds K fdB ["hand"] []) (kbB : KBinds K fdB ["hand"] ["hand"] (fun us ws => us ++ ws) (fun vs zs => vs ++ zs))
    (GFr : FnOk P w K mg base CX0 1 fFr fdFr ["some"] (spFrom K)) (kFr : PySem.W.keepIn K (.ref fFr) = true) (bFr : Binds K fdFr ["some"] []) (kbFr : KBinds K fdFr ["some"] ["some"] (fun us ws => us ++ ws) (fun vs zs => vs ++ zs))
    (GP : FnOk P w K mg base CX0 1 fP fdP ["_law_script", "_law_k"] (spPot K)) (kP : PySem.W.keepIn K (.ref fP) = true) (bP : Binds K fdP ["_law_script", "_law_k"] [])
    (GS : FnOk P w K mg base CX0 3 fS fdS ["_law_pot_here"] spSize) (kS : PySem.W.keepIn K (.ref fS) = true) (bS : Binds K fdS ["_law_pot_here"] [])
    (GPe : FnOk P w K mg base CX0 3 fPe fdPe ["_law_pot_here", "_law_size_here"] spPerson) (kPe : PySem.W.keepIn K (.ref fPe) = true) (bPe : Binds K fdPe ["_law_pot_here", "_law_size_here"] [])
    (GHa : FnOk P w K mg base CX0 1 fHa fdHa ["_law_one"] (spHalved K)) (kHa : PySem.W.keepIn K (.ref fHa) = true) (bHa : Binds K fdHa ["_law_one"] [])
    (GOr : FnOk P w K mg base CX0 2 fOr fdOr ["_law_pot_here", "_law_row"] (spOrders K)) (kOr : PySem.W.keepIn K (.ref fOr) = true) (bOr : Binds K fdOr ["_law_pot_here", "_law_row"] []) : FnG P w K mg base 4 f fd ["_law_script"] (spLaw K) := by
  refine fnG_of F scLaw (fun vs H Q E h => ?_) (fun cdv A outer s H vs Q E gd hr h => ?_)
  · obtain ⟨a, n, rfl, _⟩ := h
    rfl
  · obtain ⟨a, ns, rfl, hS, hl, q⟩ := h
    refine ⟨_, pss_cons (ps_for PassesOwn.never rfl (pi_range1 (by rfl) T.rng (pa_cons (pe_callB (call_max2 rfl) (by rfl) T.mx (by decide +kernel) (pa_cons pe_int (pa_cons (pe_callB (call_min2 rfl) (by rfl) T.mn (by decide +kernel)
        (pa_cons pe_int (pa_cons (pe_callB call_len_seq (by rfl) T.len PySem.boot_len (pa_cons (pv 0) pa_nil)) pa_nil))) pa_nil))) pa_nil)) (pg_name (i := 1) scLaw.nd rfl (.inl rfl))
      (pss_cons (ps_set (i := 2) scLaw.nd rfl (.inl rfl) (pe_call GP (hr.mono (by decide)) (by rfl) T.gP kP bP .nil pass0 (pa_cons (pv 0) (pa_cons (pv 1) pa_nil))))
      (pss_one (ps_for PassesOwn.never rfl (pi_range1 (by rfl) T.rng (pa_cons pe_int pa_nil)) (pg_name (i := 3) scLaw.nd rfl (.inl rfl))
        (pss_cons (ps_set (i := 4) scLaw.nd rfl (.inl rfl) (pe_call GPe hr (by rfl) T.gPe kPe bPe .nil pass0 (pa_cons (pv 2) (pa_cons (pe_call GS hr (by rfl) T.gS kS bS .nil pass0 (pa_cons (pv 2) pa_nil)) pa_nil))))
        (pss_cons (ps_set (i := 5) scLaw.nd rfl (.inl rfl) (pe_call GHa (hr.mono (by decide)) (by rfl) T.gHa kHa bHa .nil pass0 (pa_cons (pv 4) pa_nil)))
        (pss_cons (ps_if (PW.pt (pw_or (pt_cmpR op_ne (pe_callB (call_reprD gd hr.units) (by rfl) T.rp (by decide +kernel) (pa_cons (pe_call GB (hr.mono (by decide)) (by rfl) T.gB kB bB .nil pass0 (pa_cons (pv 4) pa_nil)) pa_nil))
              (pe_callB (call_reprD gd hr.units) (by rfl) T.rp (by decide +kernel) (pa_cons (pv 5) pa_nil)) (nomark _))
            (pw_or1 (pt_cmpR op_ne (pe_callB (call_reprD gd hr.units) (by rfl) T.rp (by decide +kernel) (pa_cons (pe_callK0 GB (hr.mono (by decide)) (by rfl) T.gB kB kbB pass0 (pk_cons (pv 4) pk_nil)) pa_nil))
              (pe_callB (call_reprD gd hr.units) (by rfl) T.rp (by decide +kernel) (pa_cons (pv 5) pa_nil)) (nomark _))))) (pss_one (ps_ret pe_bl)) pss_nil)
        (pss_one (ps_for PassesOwn.never rfl (pi_list (pe_call GOr (hr.mono (by decide)) (by rfl) T.gOr kOr bOr .nil pass0 (pa_cons (pv 2) (pa_cons (pv 5) pa_nil)))) (pg_name (i := 6) scLaw.nd rfl (.inl rfl))
          (pss_one (ps_if (PW.pt (pw_or (pt_cmpR op_ne (pe_callB call_reprN (by rfl) T.rp (by decide +kernel) (pa_cons (pe_call GFr (hr.mono (by decide)) (by rfl) T.gFr kFr bFr .nil pass0 (pa_cons (pv 6) pa_nil)) pa_nil))
              (pe_callB call_reprN (by rfl) T.rp (by decide +kernel) (pa_cons (pv 4) pa_nil)) (nomark _))
            (pw_or1 (pt_cmpR op_ne (pe_callB call_reprN (by rfl) T.rp (by decide +kernel) (pa_cons (pe_callK0 GFr (hr.mono (by decide)) (by rfl) T.gFr kFr kbFr pass0 (pk_cons (pv 6) pk_nil)) pa_nil))
              (pe_callB call_reprN (by rfl) T.rp (by decide +kernel) (pa_cons (pv 4) pa_nil)) (nomark _))))) (pss_one (ps_ret pe_bl)) pss_nil)))))))))))
      (pss_one (ps_ret (pe_and (pe_cmpR (op_eqD hr.units) (pe_call GB (hr.mono (by decide)) (by rfl) T.gB kB bB .nil pass0 (pa_cons pe_int pa_nil)) (pe_tup pa_nil) (nomark _))
        (pe_and (pe_cmpR op_eq (pe_call GFr (hr.mono (by decide)) (by rfl) T.gFr kFr bFr .nil pass0 (pa_cons (pe_tup pa_nil) pa_nil)) pe_int (nomark _))
        (pe_one (pe_cmpR (op_eqD hr.units) (pe_call GB (hr.mono (by decide)) (by rfl) T.gB kB bB .nil pass0 (pa_cons (pe_op op_subN (pe_op op_bit pe_int pe_int) pe_int) pa_nil)) (pe_tupRg (by rfl) (by rfl) T.tp (prg_1 (by rfl) T.rng pe_int)) (nomark _))))))), ?_⟩
    refine ⟨.ref a, rfl, a, _, rfl, .inl hS, _, _, rfl, _, _, rfl, _, rfl, ?_, ?_, for_range (lo := 0) (fun i σ H' => ∃ y1 y2 y3 y4 y5 y6, σ = [some (.ref a), y1, y2, y3, y4, y5, y6] ∧ Same H H') ⟨none, none, none, none, none, none, rfl, Same.refl H⟩ ?_ ?_⟩
    · split <;> split <;> omega
    · split <;> split <;> omega
    · rintro i σ H1 hi ⟨y1, y2, y3, y4, y5, y6, rfl, s1⟩
      have hi2 : i ≤ 100 := by
        refine Nat.le_of_lt (Nat.lt_of_lt_of_le hi ?_)
        split <;> split <;> omega
      refine ⟨.ref a, rfl, .int (0 + i), rfl, a, ns, i, by rw [Int.zero_add]; rfl, s1.seq hS, hl, hi2, fun H2 p s2 np pp => ?_⟩
      have npH : H p = none := s1.free np
      have s12 := s1.trans s2
      refine ⟨6, rfl, by decide, by decide, for_range (lo := 0) (n := 6) (fun j σ H' => ∃ y3 y4 y5 y6, σ = [some (.ref a), some (.int (0 + i)), some (.ref p), y3, y4, y5, y6] ∧ Same H H' ∧ Pot H' p (j * 100)) ⟨_, _, _, _, rfl, s12, pp⟩ ?_ ?_⟩
      · rintro j σ H3 hj ⟨y3, y4, y5, y6, rfl, s3, p3⟩
        -- one = person(pot, size(pot))
        refine ⟨.ref p, rfl, .ref p, rfl, p, j * 100, rfl, p3, by omega, fun sz H4 z1 z2 k4 p4 => ?_⟩
        refine ⟨p, sz, j * 100 + 2, rfl, z1, z2, p4, by omega, fun one H5 o1 k5 p5 => ?_⟩
        have one60 : one < 2 ^ 60 := Nat.lt_of_lt_of_le o1 (Nat.pow_le_pow_right (by decide) z2)
        have s5 : Same H H5 := same_keeps npH (same_keeps npH s3 k4) k5
        -- due = halved(one)
        refine ⟨.int one, rfl, one, rfl, one60, fun H6 d s6 nd hd => ?_⟩
        have hT : SqT K H6 d (nv (bl 60 one)) := .inl (.inl hd)
        have hD : Dp K H6 (.ref d) (.tuple (nd' (bl 60 one))) := dp_tup hT
        have hsm : ∀ n ∈ bl 60 one, n < 2 ^ 61 := fun n hn => bl_small (Nat.le_refl _) hn
        have hsh : (PyData.tuple (nd' (bl 60 one))).showable = true := nd_show _ hsm
        have hdi : (PyData.tuple (nd' (bl 60 one))).hasDict = false := nd_dict _
        have hde : (PyData.tuple (nd' (bl 60 one))).depth < 60 := Nat.lt_of_le_of_lt (nd_dep _) (by decide)
        have hle : (PyData.tuple (nd' (bl 60 one))).shown.length ≤ sizeLine := nd_len hsm (Nat.le_trans (bl_len 60 one) (by decide))
        -- if repr(bits(one)) != repr(due) or ..
        refine ⟨.int one, rfl, one, rfl, one60, fun H7 b s7 nb hb => ?_⟩
        refine ⟨b, _, rfl, dp_tup (.inl (.inl hb)), hsh, hdi, hde, hle, .ref d, rfl, d, _, rfl, dp_tup (sameT s7 hT), hsh, hdi, hde, hle, rfl, _, rfl, ?_⟩
        refine iteNS rfl ?_
        refine ⟨.int one, rfl, one, rfl, one60, fun H8 b2 s8 nb2 hb2 => ?_⟩
        have s78 := s7.trans s8
        refine ⟨b2, _, rfl, dp_tup (.inl (.inl hb2)), hsh, hdi, hde, hle, .ref d, rfl, d, _, rfl, dp_tup (sameT s78 hT), hsh, hdi, hde, hle, rfl, _, rfl, ?_⟩
        refine iteNS rfl ?_
        -- for row in orders(pot, due)
        have hd8 : H8 d = some (.tup (nv (bl 60 one))) := s78 _ _ hd
        have p8 : Pot H8 p (j * 100 + 10) := (p5.same (s6.trans s78)).up (by omega)
        have hdp : d ≠ p := fun e => by
          obtain ⟨x, y, z, hH, _⟩ := p8
          rw [e, hH] at hd8
          cases hd8
        refine ⟨.ref p, rfl, .ref d, rfl, p, d, bl 60 one, j * 100 + 10, rfl, fun H' kk => .inl (.inl (kk d _ hdp hd8)), bl_len 60 one, p8, by omega, fun H9 o ts k9 p9 no ho hts => ?_⟩
        have s9 : Same H H9 := same_keeps npH (s5.trans (s6.trans s78)) k9
        refine ⟨o, rfl, ⟨_, .inl (.inl ho)⟩, for_list (xs := ts.map V.ref) (fun r σ H' => ∃ y3 y6, σ = [some (.ref a), some (.int (0 + i)), some (.ref p), y3, some (.int one), some (.ref d), y6] ∧ H' = H9) ⟨_, _, rfl, rfl⟩ ?_ ?_ ?_⟩
        · rintro r σ H' _ ⟨_, _, _, rfl⟩
          exact .inl (.inl ho)
        · rintro r x σ H' hx ⟨y3, y6, rfl, rfl⟩
          obtain ⟨t, ht, rfl⟩ : ∃ t, t ∈ ts ∧ V.ref t = x := by
            rw [List.getElem?_map] at hx
            cases e : ts[r]? with
            | none => rw [e] at hx; cases hx
            | some z => rw [e] at hx; exact ⟨z, List.mem_of_getElem? e, Option.some.inj hx⟩
          obtain ⟨rs, hrs, hmem⟩ := hts t ht
          have efb : fb rs = one := fb_eq fun x => (hmem x).trans (bl_mem one60)
          have hk : ∀ k ∈ rs, k < 1000 := fun k hk => Nat.lt_trans (bl_lt ((hmem k).mp hk)) (by decide)
          have hlog : ((fb rs : Nat) : Int).natAbs.log2 < 1920 := by rw [efb]; exact log_small (Nat.lt_trans one60 (by decide))
          have hlog2 : (one : Int).natAbs.log2 < 1920 := log_small (Nat.lt_trans one60 (by decide))
          refine ⟨.ref t, rfl, t, rs, rfl, hrs, hk, _, rfl, hlog, .int one, rfl, _, rfl, hlog2, rfl, _, rfl, ?_⟩
          refine iteNS (by rw [efb]) ?_
          refine ⟨.ref t, rfl, t, rs, rfl, hrs, hk, _, rfl, hlog, .int one, rfl, _, rfl, hlog2, rfl, _, rfl, ?_⟩
          refine iteNS (by rw [efb]) ?_
          exact ⟨_, _, rfl, rfl⟩
        · rintro σ H' ⟨y3, y6, rfl, rfl⟩
          exact ⟨_, _, _, _, rfl, s9, p9.up (by omega)⟩
      · rintro σ H3 ⟨y3, y4, y5, y6, rfl, s3, p3⟩
        exact ⟨_, _, _, _, _, _, rfl, s3⟩
    · rintro σ H1 ⟨y1, y2, y3, y4, y5, y6, rfl, s1⟩
      have e0 : PyData.eqv (.tuple (nd' (bl 60 0))) (.tuple (nd' [])) = true := by
        rw [show bl 60 0 = [] by decide]
        exact PySem.SeqAt.eqv_refl _ (nd_can [])
      have e1 : bl 60 (2 ^ 60 - 1) = List.range 60 := by decide +kernel
      have e2 : PyData.eqv (.tuple (nd' (bl 60 (2 ^ 60 - 1)))) (.tuple (nd' (List.range 60))) = true := by
        rw [e1]
        exact PySem.SeqAt.eqv_refl _ (nd_can _)
      refine ⟨0, rfl, by decide, fun H2 b s2 nb hb => ⟨(by show 0 ≤ sizeLine; decide), fun e ne => ?_⟩⟩
      refine ⟨_, _, dp_tup (.inl (.inl (by rw [upd_ne (ne_of_none hb ne)]; exact hb))), dp_tup (ns := []) (.inl (.inl upd_same)), nd_shaped _, nd_shaped _, _, rfl, ite2 (fun _ => ?_) (fun n => absurd e0 n)⟩
      refine ⟨(by show 0 ≤ sizeLine; decide), fun e3 ne3 => ?_⟩
      refine ⟨e3, [], rfl, .inl (.inl upd_same), fun _ h => absurd h List.not_mem_nil, rfl, _, rfl, ite2 (fun _ => ?_) (fun n => absurd (by decide) n)⟩
      refine ⟨60, rfl, rfl, by decide, 2 ^ 60, 1, rfl, rfl, by decide, 2 ^ 60 - 1, rfl, by decide, fun H4 b4 s4 nb4 hb4 => ?_⟩
      refine ⟨_, rfl, (show RgOk 0 60 from RgOk.of_le (by decide) (by decide) (by decide) (by decide)), fun t nt => ?_⟩
      refine ⟨_, _, dp_tup (.inl (.inl (by rw [upd_ne (ne_of_none hb4 nt)]; exact hb4))), dp_tup (ns := List.range 60) (.inl (.inl ?_)), nd_shaped _, nd_shaped _, ?_⟩
      · rw [upd_same]
        exact congrArg (fun z => some (HO.tup z)) (show rgV 0 60 = nv (List.range 60) by decide +kernel)
      · show Q (.bl (PyData.eqv _ _)) _
        rw [e2]
        exact q _
end
end Bf
namespace Bf
open PySem PySem.Spec PyProof.Rows L2
/-- where a def of the top stands -/
structure DefAt (K : PySem.W.Frag) (x : Str) (st : Stmt) (f : Addr) : Prop where
  at_ : PySem.W.nsIn K mainGlobals x = some (some (.ref f))
  fn : ∃ fd, Fun K x x st f fd
theorem mkD {K : PySem.W.Frag} {x : Str} {st : Stmt} {f : Addr} {oc kV doc pm cdv ct : Value} {od an : Option Addr} {osl : Array (Option Value)} (a : PySem.W.nsIn K mainGlobals x = some (some (.ref f)))
    (l : K.lookup f = some ⟨oc, od, .func (PySem.W.fnOf x x (defArgs st) (defBody st) (defScope st) .none kV doc pm an cdv ct), osl⟩) (c : PySem.W.codeIn K cdv x = true) (k : PySem.W.keepIn K (.ref f) = true) : DefAt K x st f := ⟨a, _, fun_mk (st := st) l c k⟩
theorem all_mk {l : PySem.W.OpenLaw} {w : World} {K : PySem.W.Frag} {h : Heap} {mg : Str → Option Value} {fa f0 f1 f2 f3 f4 f5 f6 f7 f8 f9 f10 f11 : Addr} (X : K.In h) (G : h.Ns mainGlobals mg) (hfa : mg "law" = some (.ref fa))
    (d0 : DefAt K "bits" sBits f0)
    (d1 : DefAt K "has_bit" sHas f1)
    (d2 : DefAt K "from_bits" sFrom f2)
    (d3 : DefAt K "_law_pot" sPot f3)
    (d4 : DefAt K "_law_take" sTake f4)
    (d5 : DefAt K "_law_of" sOf f5)
    (d6 : DefAt K "_law_far" sFar f6)
    (d7 : DefAt K "_law_size" sSize f7)
    (d8 : DefAt K "_law_person" sPerson f8)
    (d9 : DefAt K "_law_halved" sHalved f9)
    (d10 : DefAt K "_law_orders" sOrders f10)
    (d11 : DefAt K "law" sLaw f11)
    (z0 : PySem.W.nsIn K mainGlobals "len" = some none)
    (z1 : PySem.W.nsIn K mainGlobals "abs" = some none)
    (z2 : PySem.W.nsIn K mainGlobals "range" = some none)
    (z3 : PySem.W.nsIn K mainGlobals "max" = some none)
    (z4 : PySem.W.nsIn K mainGlobals "min" = some none)
    (z5 : PySem.W.nsIn K mainGlobals "repr" = some none)
    (z6 : PySem.W.nsIn K mainGlobals "tuple" = some none)
    : ∃ fd : FuncData, (∀ (s : Shared) (v : Value), BindsTo s fd ⟨[v], []⟩ [("_law_script", v)]) ∧ ∀ base : Heap, K.In base → base.Ns mainGlobals mg → FnG l.prog w K mg base 4 fa fd ["_law_script"] (spLaw K) := by
  obtain ⟨a0, e0, F0⟩ := d0
  obtain ⟨a1, e1, F1⟩ := d1
  obtain ⟨a2, e2, F2⟩ := d2
  obtain ⟨a3, e3, F3⟩ := d3
  obtain ⟨a4, e4, F4⟩ := d4
  obtain ⟨a5, e5, F5⟩ := d5
  obtain ⟨a6, e6, F6⟩ := d6
  obtain ⟨a7, e7, F7⟩ := d7
  obtain ⟨a8, e8, F8⟩ := d8
  obtain ⟨a9, e9, F9⟩ := d9
  obtain ⟨a10, e10, F10⟩ := d10
  obtain ⟨a11, e11, F11⟩ := d11
  have e := hfa.symm.trans (PySem.W.mg_of X G a11)
  cases e
  have b0 := F0.binds (ps := ["hand"]) fun _ _ _ _ _ _ us hl => match us, hl with | [_], _ => rfl
  have g0 := PySem.W.mg_of X G a0
  have b1 := F1.binds (ps := ["hand", "k"]) fun _ _ _ _ _ _ us hl => match us, hl with | [_, _], _ => rfl
  have g1 := PySem.W.mg_of X G a1
  have b2 := F2.binds (ps := ["some"]) fun _ _ _ _ _ _ us hl => match us, hl with | [_], _ => rfl
  have g2 := PySem.W.mg_of X G a2
  have b3 := F3.binds (ps := ["_law_script", "_law_k"]) fun _ _ _ _ _ _ us hl => match us, hl with | [_, _], _ => rfl
  have g3 := PySem.W.mg_of X G a3
  have b4 := F4.binds (ps := ["_law_pot_here", "_law_size_here"]) fun _ _ _ _ _ _ us hl => match us, hl with | [_, _], _ => rfl
  have g4 := PySem.W.mg_of X G a4
  have b5 := F5.binds (ps := ["_law_pot_here", "_law_menu"]) fun _ _ _ _ _ _ us hl => match us, hl with | [_, _], _ => rfl
  have g5 := PySem.W.mg_of X G a5
  have b6 := F6.binds (ps := ["_law_pot_here", "_law_size_here"]) fun _ _ _ _ _ _ us hl => match us, hl with | [_, _], _ => rfl
  have g6 := PySem.W.mg_of X G a6
  have b7 := F7.binds (ps := ["_law_pot_here"]) fun _ _ _ _ _ _ us hl => match us, hl with | [_], _ => rfl
  have g7 := PySem.W.mg_of X G a7
  have b8 := F8.binds (ps := ["_law_pot_here", "_law_size_here"]) fun _ _ _ _ _ _ us hl => match us, hl with | [_, _], _ => rfl
  have g8 := PySem.W.mg_of X G a8
  have b9 := F9.binds (ps := ["_law_one"]) fun _ _ _ _ _ _ us hl => match us, hl with | [_], _ => rfl
  have g9 := PySem.W.mg_of X G a9
  have b10 := F10.binds (ps := ["_law_pot_here", "_law_row"]) fun _ _ _ _ _ _ us hl => match us, hl with | [_, _], _ => rfl
  have g10 := PySem.W.mg_of X G a10
  have m0 := PySem.W.mg_none_of X G z0
  have m1 := PySem.W.mg_none_of X G z1
  have m2 := PySem.W.mg_none_of X G z2
  have m3 := PySem.W.mg_none_of X G z3
  have m4 := PySem.W.mg_none_of X G z4
  have m5 := PySem.W.mg_none_of X G z5
  have m6 := PySem.W.mg_none_of X G z6
  have kb0 : KBinds K e0 ["hand"] ["hand"] (fun us ws => us ++ ws) (fun vs zs => vs ++ zs) := kb1 F0 (fun _ _ _ _ _ _ _ => rfl) fun _ _ _ _ _ _ _ => rfl
  have kb2 : KBinds K e2 ["some"] ["some"] (fun us ws => us ++ ws) (fun vs zs => vs ++ zs) := kb1 F2 (fun _ _ _ _ _ _ _ => rfl) fun _ _ _ _ _ _ _ => rfl
  refine ⟨e11, fun s v => ?_, fun base _ _ => ?_⟩
  · obtain ⟨oc, od, kV, doc, pm, an, cdv, ct, osl, rfl, lk, hcd⟩ := F11.ex
    exact .of_eq rfl
  · have GH : FnOk l.prog w K mg base CX0 1 _ _ _ _ := ok_has F1
    have GB : FnOk l.prog w K mg base CX0 2 _ _ _ _ := ok_bits F0 GH F1.kp b1 g1 m6 m2
    have GFr : FnOk l.prog w K mg base CX0 1 _ _ _ _ := ok_from F2
    have GP : FnOk l.prog w K mg base CX0 1 _ _ _ _ := ok_pot F3 m0 m1
    have GT : FnOk l.prog w K mg base CX0 1 _ _ _ _ := ok_take F4
    have GO : FnOk l.prog w K mg base CX0 2 _ _ _ _ := ok_of F5 GT F4.kp b4 g4 m0
    have GF : FnOk l.prog w K mg base CX0 2 _ _ _ _ := ok_far F6 GT F4.kp b4 g4
    have GS : FnOk l.prog w K mg base CX0 3 _ _ _ _ := ok_size F7 GT F4.kp b4 g4 GO F5.kp b5 g5
    have GPe : FnOk l.prog w K mg base CX0 3 _ _ _ _ := ok_person F8 GT F4.kp b4 g4 GO F5.kp b5 g5 GF F6.kp b6 g6
    have GHa : FnOk l.prog w K mg base CX0 1 _ _ _ _ := ok_halved F9 m6
    have GOr : FnOk l.prog w K mg base CX0 2 _ _ _ _ := ok_orders F10 GT F4.kp b4 g4 m0 m6
    exact ok_law F11 (fT := f4) ⟨g0, g2, g3, g7, g8, g9, g10, m0, m2, m3, m4, m5, m6⟩ GB F0.kp b0 kb0 GFr F2.kp b2 kb2 GP F3.kp b3 GS F7.kp b7 GPe F8.kp b8 GHa F9.kp b9 GOr F10.kp b10
end Bf
open PySem PySem.W PyProof.Rows
set_option maxHeartbeats 0 in
theorem PySem.Challenge.cw_beatferry_k01_bits_and_back_holds : PySem.Challenge.rw_beatferry_k01_bits_and_back.Holds := by
  w_on; o_law; k_head; (case hw => w_witness2)
  k_fill
  refine Bf.walkG (l := PySem.Challenge.rw_beatferry_k01_bits_and_back) (n := 63) (k := 4) (x := "_law_script") (sp := Bf.spLaw) rfl (by decide) rfl ⟨rfl, by decide, by decide⟩ (fun w h Y => PySem.W.kIn_of Y) ?F (fun _ _ a ns hl _ hS => ⟨a, ns, rfl, hS, hl, fun _ => rfl⟩)
  case F =>
    intro w mg fa h KX G hmg
    refine' Bf.all_mk KX G hmg (Bf.mkD ?a0 ?l0 ?c0 ?k0) (Bf.mkD ?a1 ?l1 ?c1 ?k1) (Bf.mkD ?a2 ?l2 ?c2 ?k2) (Bf.mkD ?a3 ?l3 ?c3 ?k3) (Bf.mkD ?a4 ?l4 ?c4 ?k4) (Bf.mkD ?a5 ?l5 ?c5 ?k5) (Bf.mkD ?a6 ?l6 ?c6 ?k6) (Bf.mkD ?a7 ?l7 ?c7 ?k7) (Bf.mkD ?a8 ?l8 ?c8 ?k8) (Bf.mkD ?a9 ?l9 ?c9 ?k9) (Bf.mkD ?a10 ?l10 ?c10 ?k10) (Bf.mkD ?a11 ?l11 ?c11 ?k11) ?z0 ?z1 ?z2 ?z3 ?z4 ?z5 ?z6
    (case a0 => k_is); (case l0 => k_is); (case c0 => k_is); (case k0 => k_is); (case a1 => k_is); (case l1 => k_is); (case c1 => k_is); (case k1 => k_is); (case a2 => k_is); (case l2 => k_is); (case c2 => k_is); (case k2 => k_is); (case a3 => k_is); (case l3 => k_is); (case c3 => k_is); (case k3 => k_is); (case a4 => k_is); (case l4 => k_is); (case c4 => k_is); (case k4 => k_is); (case a5 => k_is); (case l5 => k_is); (case c5 => k_is); (case k5 => k_is); (case a6 => k_is); (case l6 => k_is); (case c6 => k_is); (case k6 => k_is); (case a7 => k_is); (case l7 => k_is); (case c7 => k_is); (case k7 => k_is); (case a8 => k_is); (case l8 => k_is); (case c8 => k_is); (case k8 => k_is); (case a9 => k_is); (case l9 => k_is); (case c9 => k_is); (case k9 => k_is); (case a10 => k_is); (case l10 => k_is); (case c10 => k_is); (case k10 => k_is); (case a11 => k_is); (case l11 => k_is); (case c11 => k_is); (case k11 => k_is); (case z0 => k_is); (case z1 => k_is); (case z2 => k_is); (case z3 => k_is); (case z4 => k_is); (case z5 => k_is); (case z6 => k_is)
