import PyProof.Rows.All
import Wide.All
import OpenK.AllK
import Wide.FinOn
import HandS.Base
import HandS.Words
import HandS.Defaults
import HandS.Head0
import HandS.Head1
import HandS.Head2
import HandS.HeadEnd
import HandS.HeadHook1
import HandS.HeadHook2
import HandS.HeadHook4
import HandS.ForMost
import HandS.More
import HandS.Wide
import HandS.WideBits
import HandS.TupAny
import HandS.TupMul
import HandS.Style
import HandS.RaiseMore
import KE.SortKeyHeap
import KE.KLam
import HandS.SortKw
import HandS.Lambda
import HandS.Nested
import HandS.EndTab
import HandS.Conv
import HandS.Zip
import HandS.Walk
import HandS.Comp
import HandS.Rev
import HandS.Iter
import KE.GoesMore
import HandS.Flow
import HandS.SortInts
import HandS.RevRange
import HandS.SetFor
import HandS.Strs
import HandS.IsInst
import HandS.TupLe
import KE.DataMinKey
import HandS.Small
import KE.GoesEnum
import KE.KSliceW
import HandS.List
import HandS.TupSets
import HandS.SortOrd
import HandS.DictComp
import HandS.Dict
import HandS.SetKeys
import PyProof.DictMoreH
import HandS.MakeKw
import HandS.MakeKwOnly
import HandS.OwnEq
import HandS.DictTup
import HandS.Deep
import KE.KDictWalk
import PyProof.InstNe
import KE.KDictItemsList
import KE.KDictCopyH
import KE.KDictPairs
import PyProof.DictUpdate
import HandS.ListItems
import KE.KDictDisplayH
import PyProof.Rows.TupDisplay
import HandS.Text
import HandS.StrMore
import HandS.FStr
import KE.KUnpackStar
import KE.KUnpack
import PySem.Challenge.RW_beatferry_k66_plans_as_texts
set_option Elab.async false
set_option linter.all false
set_option maxRecDepth 100000
set_option maxHeartbeats 4000000
namespace Bf
open PySem PySem.Spec PyProof.Rows L2
end Bf
namespace Bf
open PySem PySem.Spec PyProof.Rows L2
def topS (i : Nat) : Stmt := PySem.Challenge.pw_beatferry_k66_plans_as_texts.main.body.getD i (.Pass ⟨0, 0, 0, 0⟩)
abbrev sSpt : Stmt := topS 1
abbrev sShp : Stmt := topS 2
abbrev sNin : Stmt := topS 11
abbrev sNis : Stmt := topS 12
abbrev sNit : Stmt := topS 12
abbrev sRof : Stmt := topS 13
abbrev sWat : Stmt := topS 14
abbrev sNat : Stmt := topS 15
abbrev sRpl : Stmt := topS 16
abbrev sBin : Stmt := topS 17
abbrev sTin : Stmt := topS 18
abbrev sCab : Stmt := topS 19
abbrev sPot : Stmt := topS 21
abbrev sTake : Stmt := topS 22
abbrev sOf : Stmt := topS 23
abbrev sBea : Stmt := topS 24
abbrev sLro : Stmt := topS 25
abbrev sRi : Stmt := topS 26
abbrev sLaw : Stmt := topS 27
end Bf
namespace Bf
open PySem PySem.Spec PyProof.Rows L2
def dd0 : He.DefD := ⟨("spelt", none), "spelt", "spelt", defArgs sSpt, defBody sSpt, defScope sSpt, [], []⟩
def dd1 : He.DefD := ⟨("show_plan", none), "show_plan", "show_plan", defArgs sShp, defBody sShp, defScope sShp, [], [("source", He.Dv.int 0)]⟩
def dd2 : He.DefD := ⟨("number_in", none), "number_in", "number_in", defArgs sNin, defBody sNin, defScope sNin, [], []⟩
def dd3 : He.DefD := ⟨("numbers_in", none), "numbers_in", "numbers_in", defArgs sNis, defBody sNis, defScope sNis, [], []⟩
def dd4 : He.DefD := ⟨("rows_of", none), "rows_of", "rows_of", defArgs sRof, defBody sRof, defScope sRof, [], []⟩
def dd5 : He.DefD := ⟨("words_at", none), "words_at", "words_at", defArgs sWat, defBody sWat, defScope sWat, [], []⟩
def dd6 : He.DefD := ⟨("numbers_at", none), "numbers_at", "numbers_at", defArgs sNat, defBody sNat, defScope sNat, [], []⟩
def dd7 : He.DefD := ⟨("read_plan", none), "read_plan", "read_plan", defArgs sRpl, defBody sRpl, defScope sRpl, [], []⟩
def dd8 : He.DefD := ⟨("beat_in", none), "beat_in", "beat_in", defArgs sBin, defBody sBin, defScope sBin, [], []⟩
def dd9 : He.DefD := ⟨("telling_in", none), "telling_in", "telling_in", defArgs sTin, defBody sTin, defScope sTin, [], []⟩
def dd10 : He.DefD := ⟨("can_be", none), "can_be", "can_be", defArgs sCab, defBody sCab, defScope sCab, [], []⟩
def dd11 : He.DefD := ⟨("_law_pot", none), "_law_pot", "_law_pot", defArgs sPot, defBody sPot, defScope sPot, [], []⟩
def dd12 : He.DefD := ⟨("_law_take", none), "_law_take", "_law_take", defArgs sTake, defBody sTake, defScope sTake, [], []⟩
def dd13 : He.DefD := ⟨("_law_of", none), "_law_of", "_law_of", defArgs sOf, defBody sOf, defScope sOf, [], []⟩
def dd14 : He.DefD := ⟨("_law_beat", none), "_law_beat", "_law_beat", defArgs sBea, defBody sBea, defScope sBea, [], []⟩
def dd15 : He.DefD := ⟨("_law_row", none), "_law_row", "_law_row", defArgs sLro, defBody sLro, defScope sLro, [], []⟩
def dd16 : He.DefD := ⟨("_law_right", none), "_law_right", "_law_right", defArgs sRi, defBody sRi, defScope sRi, [], []⟩
def dd17 : He.DefD := ⟨("law", none), "law", "law", defArgs sLaw, defBody sLaw, defScope sLaw, [], []⟩
def fnL : List He.DefD := [dd0, dd1, dd2, dd3, dd4, dd5, dd6, dd7, dd8, dd9, dd10, dd11, dd12, dd13, dd14, dd15, dd16, dd17]
def faL : List He.Fa := ((.glo "spelt") : He.Fa) :: ((.glo "show_plan") : He.Fa) :: ((.glo "number_in") : He.Fa) :: ((.glo "numbers_in") : He.Fa) :: ((.glo "rows_of") : He.Fa) :: ((.glo "words_at") : He.Fa) :: ((.glo "numbers_at") : He.Fa) :: ((.glo "read_plan") : He.Fa) :: ((.glo "beat_in") : He.Fa) :: ((.glo "telling_in") : He.Fa) :: ((.glo "can_be") : He.Fa) :: ((.glo "_law_pot") : He.Fa) :: ((.glo "_law_take") : He.Fa) :: ((.glo "_law_of") : He.Fa) :: ((.glo "_law_beat") : He.Fa) :: ((.glo "_law_row") : He.Fa) :: ((.glo "_law_right") : He.Fa) :: ((.glo "law") : He.Fa) :: ((.free "len") : He.Fa) :: ((.free "tuple") : He.Fa) :: ((.free "list") : He.Fa) :: ((.free "range") : He.Fa) :: ((.free "min") : He.Fa) :: ((.free "max") : He.Fa) :: ((.free "abs") : He.Fa) :: ((.free "int") : He.Fa) :: ((.free "all") : He.Fa) :: ((.free "any") : He.Fa) :: ((.free "zip") : He.Fa) :: ((.free "enumerate") : He.Fa) :: ((.free "reversed") : He.Fa) :: ((.free "repr") : He.Fa) :: ((.free "sorted") : He.Fa) :: ((.free "sum") : He.Fa) :: ((.free "set") : He.Fa) :: ((.free "isinstance") : He.Fa) :: ((.free "bool") : He.Fa) :: ((.free "str") : He.Fa) :: ((.int "MOST_FIGURES" 9) : He.Fa) :: ((.int "MOST_BEATS" 200) : He.Fa) :: ((.int "MOST_HANDS" 64) : He.Fa) :: ((.int "MOST_LETTERS" 60) : He.Fa) :: []
def tfL : List He.Defn := []
abbrev RR : PySem.W.OpenRow := PySem.W.OpenLaw.row PySem.Challenge.rw_beatferry_k66_plans_as_texts
abbrev hkL : PySem.W.Hook := He.hookX 4 faL fnL [] tfL (fun _ => true)
def obL (s : PySem.W.SharedT) : He.AlX := He.obsX 4 faL fnL [] tfL (fun _ => true) (HandSHeadRun.getT s)
theorem obL_eq (s : PySem.W.SharedT) : obL s = hkL.obs s.abs := He.obsX_eq (HandSHeadRun.getT_eq s)
theorem runL (w : World) : HandSHeadRun.RunEq RR (PySem.W.view RR.prog [27]) hkL obL 5000 ["NotSo", "NoText", "spelt", "show_plan", "number_in", "numbers_in", "rows_of", "words_at", "numbers_at", "read_plan", "beat_in", "telling_in", "can_be", "_law_pot", "_law_take", "_law_of", "_law_beat", "_law_row", "_law_right", "MOST_FIGURES", "MOST_BEATS", "MOST_HANDS", "MOST_LETTERS"] w := by
  intro os
  kernel_rfl
end Bf
namespace Bf
open PySem PySem.Spec PyProof.Rows L2

/-! ### defs whose calls stand under no repr -/
structure FnG (P : Program) (w : World) (K : PySem.W.Frag) (mg : Str → Option Value) (base : Heap) (k : Nat) (f : Addr) (fd : FuncData) (ps : List Str) (sp : Sp) : Prop where
  len : ∀ vs H Q E, sp vs H Q E → vs.length = ps.length
  go : ∀ (A : Around) (outer : List Env) (s : Shared) (H : Hp) (args : Args) (us : List Value) (vs : List V) (Q : VK) (E : XK), A.guards = some [] → Room k A →
    Env0 P w K mg base A outer s H → BindsTo s fd args (ps.zip us) → Vals vs us → sp vs H Q E → codeAny (model P w) A (.call (.ref f) args) (CR CX0 outer P w H s Q E) s

theorem fnG_of {P : Program} {w : World} {K : PySem.W.Frag} {mg : Str → Option Value} {base : Heap} {x qual : Str} {st : Stmt} {f : Addr} {fd : FuncData} {N ps : List Str} {k : Nat} {sp : Sp}
    (F : Fun K x qual st f fd) (S : FnScope N ps (defScope st)) (len : ∀ vs H Q E, sp vs H Q E → vs.length = ps.length)
    (body : ∀ (cdv : Value) (A : Around) (outer : List Env) (s : Shared) (H : Hp) (vs : List V) (Q : VK) (E : XK), (A.deeper (envOfC qual (defScope st) s.heap.objs.size f cdv)).guards = some [] →
      Room k (A.deeper (envOfC qual (defScope st) s.heap.objs.size f cdv)) → sp vs H Q E →
      ∃ t, PSs (cxOf CX0 P w K mg base N qual (defScope st) f cdv A outer s H E).nox (defBody st) t ∧ t { nx := fun _ H' => Q .non H', rt := Q } (start N vs) H) : FnG P w K mg base (k + 1) f fd ps sp := by
  obtain ⟨oc, od, kV, doc, pm, an, cdv, ct, osl, rfl, lk, hcd⟩ := F.ex
  refine ⟨len, fun B out s G args us vs Q E gd rm en hb rl hs => ?_⟩
  have ln := len _ _ _ _ hs
  have kx : K.In s.heap := en.mod.kin.keeps fun b o e => (en.bs b o e).1
  have nl : s.heap.NoLimit := en.mod.nolimit.keeps fun b o e => (en.bs b o e).1
  have kinds : ∀ y ∈ ps.zip us, (defScope st).names.lookup y.1 = some .local ∨
      ((defScope st).names.lookup y.1 = some .cell ∧ ((cellsFrom (s.heap.objs.size + 1) (defScope st).names []).lookup y.1).isSome = true) := fun ⟨n, v⟩ hy =>
    (S.par n (List.of_mem_zip hy).1).elim (fun q => .inl q) fun q => .inr ⟨q, PySem.W.cellsFrom_some _ _ _ (.inl q)⟩
  refine codeAny_call_function rm.depth (kx _ _ lk) rfl S.co S.gen rfl (PySem.W.codeRec_of kx hcd) (hb _ _ _ _ ?_)
  refine wpAny_newFunctionEnv_cells S.kind kinds fun env he s1 x1 => ?_
  subst he
  refine ⟨nl.keeps x1.toInCall.keep, codeAny_func ?_⟩
  obtain ⟨t, ht, hq⟩ := body cdv B out s G vs Q E gd (rm.deeper _) hs
  have J0 : Inv (cxOf CX0 P w K mg base N qual (defScope st) f cdv B out s G E) [] (start N vs) G s1 := inv_start S rm.hd en ln rl x1
  refine wpAny_mono (ht.nox.run [] s1 (start N vs) G _ J0 hq) (fun fl s' hs' => ?_) fun e s' hs' => hs'
  cases fl with
  | ret u => exact let ⟨v, _, H', J, rv, q⟩ := hs'; ⟨v, H', J.os, J.bare, J.base, J.hok, rv, q⟩
  | next => exact let ⟨_, H', J, q⟩ := hs'; ⟨V.non, H', J.os, J.bare, J.base, J.hok, rfl, q⟩
  | brk => exact let ⟨_, _, _, q⟩ := hs'; False.elim q
  | cont => exact let ⟨_, _, _, q⟩ := hs'; False.elim q

section
variable {X : Cx} {x : Str} {p pos : Pos} {e : Expr} {es : List Expr} {t : TA} {k : Nat} {f : Addr} {fd : FuncData} {ps : List Str} {sp : Sp} {ds : List Value} {dvs : List V} {E : XK}
theorem runG {pins : List (Addr × Obj)} {σ : L2.St} {H : Hp} {s : Shared} {Q : VK} {us : List Value} {vs : List V} (F : FnG X.prog X.w X.K X.mg X.base k f fd ps sp) (gd : X.A.guards = some []) (hr : Room k X.A) (hb : Binds X.K fd ps ds) (hd : Vals dvs ds)
    (I : Inv X pins σ H s) (r : Vals vs us) (h : sp (vs ++ dvs) H Q E) : wpAny (model X.prog X.w) X.A (call (.ref f) us) (EP X pins σ Q) X.xe s := by
  have rr : Vals (vs ++ dvs) (us ++ ds) := r.append hd
  have ll : (us ++ ds).length = ps.length := rr.length.symm.trans (F.len _ _ _ _ h)
  refine wpAny_call (codeAny_mono (F.go X.A X.stack s H ⟨us, []⟩ (us ++ ds) (vs ++ dvs) Q E gd hr I.env0 (hb s us I.kIn ll) rr h) fun z s' hq => ?_)
  match z, hq with
  | .error _, hq => exact hq.elim
  | .ok (.ret _), hq => exact I.after hq
  | .ok .next, hq => exact False.elim hq
  | .ok .brk, hq => exact False.elim hq
  | .ok .cont, hq => exact False.elim hq
theorem pe_callG (F : FnG X.prog X.w X.K X.mg X.base k f fd ps sp) (gd : X.A.guards = some []) (hr : Room k X.A) (hg : Gl X x) (hm : X.mg x = some (.ref f)) (hk : PySem.W.keepIn X.K (.ref f) = true) (hb : Binds X.K fd ps ds) (hd : Vals dvs ds)
    (ha : PA X (e :: es) t) (hdb : (x == ("__debug__" : Str)) = false := by decide) (he : starEach (e :: es) X.env = (false, eval e X.env) :: starEach es X.env := by rfl) (hpl : (backTo pos (starEach es X.env)).any (·.1) = false := by rfl) :
    PE X (.Call (.Name x p) (e :: es) [] pos) (tCall sp dvs E t) :=
  ⟨fun pins s σ H Q I h => wpAny_Call_Name_kw (ld_glob I hg hm (PySem.W.callWith_K (h₀ := X.base) I.ok.mod.kin hk
    (thn (ha.run pos pins s σ H _ I h) fun us s1 ⟨vs, H1, I1, r, q⟩ => ⟨I1.kIn, runG F gd hr hb hd I1 r q⟩) he hpl) hdb)⟩

/-! ### repr of data -/
theorem call_reprD (gd : X.A.guards = some []) (hu : X.A.units + 64 < cLine) : CallR X (.builtin "repr") (fun xs H Q => ∃ a d, xs = [.ref a] ∧ Dp X.K H (.ref a) d ∧ d.showable = true ∧ d.hasDict = false ∧ d.depth < 60 ∧ d.shown.length ≤ sizeLine ∧ Q (.str d.shown) H) := by
  intro pins s σ H xs us Q I r h
  obtain ⟨a, d, rfl, hd, h1, h2, h3, h4, q⟩ := h
  obtain ⟨u, rfl, ru⟩ := vals1 r
  obtain ⟨as, rd⟩ := Dp.reads I d _ u hd ru
  cases ru
  refine repr_of_reads' rd h1 (PyData.noDict_hsm h2) gd (by omega) (fun _ _ z => z) (fun h' u tk hk => ?_) h4
  exact ⟨.str d.shown, H, I.kept hk, ⟨u, rfl⟩, q⟩
/-! ### calls by names alone -/
theorem pe_callK0 {CX : CXT} {kws : List Keyword} {tk : TA} {ks : List Str} {g : List Value → List Value → List Value} {gV : List V → List V → List V} (F : FnOk X.prog X.w X.K X.mg X.base CX k f fd ps sp) (hr : Room k X.A) (hg : Gl X x)
    (hm : X.mg x = some (.ref f)) (hk : PySem.W.keepIn X.K (.ref f) = true) (hb : KBinds X.K fd ps ks g gV) (hx : Passes CX X E) (hkw : PK X kws tk)
    (hall : (backToKw pos (keywordEach kws X.env)).all (·.1.isSome) = true := by rfl) (hks : (backToKw pos (keywordEach kws X.env)).filterMap (·.1) = ks := by rfl) (hdb : (x == ("__debug__" : Str)) = false := by decide)
    (hpl : ((backTo pos (starEach [] X.env)).any (·.1) || (backToKw pos (keywordEach kws X.env)).any (·.1.isNone)) = false := by rfl) : PE X (.Call (.Name x p) [] kws pos) (tCallK sp gV E tNil tk) := by
  refine ⟨fun pins s σ H Q I h => wpAny_Call_Name_kw (ld_glob I hg hm (PySem.W.callWith_KW0 (h₀ := X.base) I.ok.mod.kin hk hall ?_ hpl) hdb)⟩
  refine thn (hkw.run pos pins s σ H _ I h) fun ws s2 ⟨zs, H2, I2, rz, q2⟩ => ⟨I2.kIn, ?_⟩
  rw [hks]
  exact run_fnk F hr hb hx I2 .nil rz q2

/-! ### t[::-1], t a tuple -/
end
section
variable {prog : Program} {w : World} {A : Around} {E : Value → Shared → Prop} {s : Shared}
end
section
variable {X : Cx} {x : Str} {p pos : Pos} {e : Expr} {es : List Expr} {t : TA} {k : Nat} {f : Addr} {fd : FuncData} {ps : List Str} {sp : Sp} {ds : List Value} {dvs : List V} {E : XK}
/-! ### t * k, whatever t is -/
theorem tuple_mul0 (l : Addr) (items : Array Value) (n : Nat) (dd : Option Addr) (sl : Array (Option Value)) (x : Int) (u : Tok) (c0 : (decide (x < -(2 ^ 63)) || decide (x ≥ 2 ^ 63)) = false) (c1 : (items.isEmpty || x == 1) = true) :
    Meets (Builtin.«tuple.__mul__» ⟨[.ref l, .int x u], []⟩) (fun _ R s => s.heap.get? l = some { cls := .type "tuple", dict := dd, data := .seq items n, slots := sl } ∧ R (.ok (.ret (Value.ref l))) s) :=
  .of_wp fun prog w A R s h => by
    obtain ⟨hp, g, d, tk, os⟩ := s
    obtain ⟨hl, h⟩ := h
    have f1 := AutoSeq1.idx_int
    wp_walk using wpAny_loadPart' hl
    repeat (first
      | (refine wpAny_ite_false (decide_eq_false (by rw [c0]; exact Bool.false_ne_true)) ?_; wp_walk using wpAny_loadPart' hl)
      | (refine wpAny_ite_true (decide_eq_true c1) ?_; wp_walk using wpAny_loadPart' hl))
    exact ⟨_, rfl, h⟩
end
end Bf
namespace Bf
open PySem PySem.W PyProof.Rows
/-! ### sorted(t, key=f), f's calls keep all, the frames up to their slots -/
def KS (fs : List Addr) (h h' : Heap) : Prop := ∀ b o, h.get? b = some o → (b ∉ fs → h'.get? b = some o) ∧ ∃ sl, h'.get? b = some { o with slots := sl }
theorem KS.trans {fs : List Addr} {h h' h'' : Heap} (x : KS fs h h') (y : KS fs h' h'') : KS fs h h'' := fun b o e => by
  obtain ⟨x1, sl, x2⟩ := x b o e
  refine ⟨fun n => (y b o (x1 n)).1 n, ?_⟩
  obtain ⟨_, sl2, y2⟩ := y b _ x2
  exact ⟨sl2, y2⟩
theorem KS.of {fs : List Addr} {h h' : Heap} (x : ∀ b o, h.get? b = some o → h'.get? b = some o) : KS fs h h' := fun b o e => ⟨fun _ => x b o e, o.slots, x b o e⟩
section
variable {prog : Program} {w : World} {A : Around} {E : Value → Shared → Prop} {s : Shared} {a kS : Addr} {b : Bool} {vs : List Value} {e e1 : Nat} {P : PySem.Fin → Shared → Prop} {kz : List Int} {fs : List Addr}
end
end Bf
namespace Bf
open PySem PySem.Spec PyProof.Rows L2 LamX NdefX
section
variable {X : Cx} {pins : List (Addr × Obj)} {σ : L2.St} {H : Hp} {s s1 : Shared}
/-! ### sorted(e, key=lambda x: ..) -/
end
end Bf
namespace Bf
open PySem PySem.Spec PyProof.Rows L2
/-! ### bits of a number -/
def bl (n h : Nat) : List Nat := (List.range n).filter (fun k => h.testBit k)
/-! ### numbers as data -/
def nv (ns : List Nat) : List V := ns.map fun (n : Nat) => V.int (n : Int)
def nd' (ns : List Nat) : List PyData := ns.map fun (n : Nat) => PyData.int (n : Int)
theorem dp_nv {K : PySem.W.Frag} {H : Hp} : ∀ ns : List Nat, DpAll K H (nv ns) (nd' ns)
  | [] => .nil
  | n :: ns => .cons (.int _) (dp_nv ns)
theorem nd_show : ∀ ns : List Nat, (∀ n ∈ ns, n < 2 ^ 61) → PyData.showableAll (nd' ns) = true
  | [], _ => rfl
  | n :: ns, h => by
    have h1 : n < 2 ^ 61 := h n List.mem_cons_self
    have e : n.log2 < 1920 := by
      by_cases z : n = 0
      · subst z; decide
      · exact Nat.lt_of_lt_of_le ((Nat.log2_lt z).mpr h1) (by decide)
    show (decide ((n : Int).natAbs.log2 < 1920) && PyData.showableAll (nd' ns)) = true
    rw [nd_show ns fun m hm => h m (List.mem_cons_of_mem _ hm), Bool.and_true]
    exact decide_eq_true (by simpa using e)
theorem nd_leaves : ∀ ns : List Nat, (∀ n ∈ ns, n < 2 ^ 61) → PyData.leavesShortAll 64 (nd' ns) = true
  | [], _ => rfl
  | n :: ns, h => by
    have h1 : n < 2 ^ 61 := h n List.mem_cons_self
    show (decide ((PyData.shown (.int (n : Int))).length ≤ 64) && PyData.leavesShortAll 64 (nd' ns)) = true
    rw [nd_leaves ns fun m hm => h m (List.mem_cons_of_mem _ hm), Bool.and_true]
    have h2 : (n : Int) < 10 ^ 19 := by omega
    exact decide_eq_true (Nat.le_trans (toString_length_le (v := (n : Int)) (by omega) (k := 19) (by decide) h2) (by decide))
theorem nd_weight : ∀ ns : List Nat, (∀ n ∈ ns, n < 2 ^ 61) → PyData.weightAll (nd' ns) ≤ 63 * ns.length
  | [], _ => Nat.le_refl _
  | n :: ns, h => by
    have h1 : n < 2 ^ 61 := h n List.mem_cons_self
    have ih := nd_weight ns fun m hm => h m (List.mem_cons_of_mem _ hm)
    have e : PyData.weight (.int (n : Int)) ≤ 62 := by
      simp only [PyData.weight]
      by_cases z : n = 0
      · subst z; decide
      · have := (Nat.log2_lt z).mpr h1
        rw [if_neg (by simpa using z)]
        simp
        omega
    show PyData.weight (.int (n : Int)) + 1 + PyData.weightAll (nd' ns) ≤ 63 * (ns.length + 1)
    omega
end Bf
namespace Bf
open PySem PySem.Spec PyProof.Rows L2
/-! ### round orders -/
def rb (q h j : Nat) : List Nat := ((List.range q).map fun i => (j + i) % q).filter fun k => h.testBit k
def ar (q j k : Nat) : Int := ((k : Int) - (j : Int)) % (q : Int)
theorem ar_at {q i : Nat} (j : Nat) (hi : i < q) : ar q j ((j + i) % q) = (i : Int) := by
  unfold ar
  rw [Int.natCast_emod, Int.emod_sub_emod, Int.natCast_add, show (j : Int) + i - j = i by omega]
  exact Int.emod_eq_of_lt (by omega) (by omega)
theorem at_of {q x : Nat} (j : Nat) (hx : x < q) : ∃ i, i < q ∧ (j + i) % q = x := by
  have hq : 0 < q := by omega
  refine ⟨(x + (q - j % q)) % q, Nat.mod_lt _ hq, ?_⟩
  have hj : j % q < q := Nat.mod_lt _ hq
  rw [Nat.add_mod, Nat.mod_mod, ← Nat.add_mod]
  have e : j + (x + (q - j % q)) = x + q * (j / q + 1) := by
    have := Nat.div_add_mod j q
    rw [Nat.mul_add, Nat.mul_one]
    omega
  rw [e, Nat.add_mul_mod_self_left]
  exact Nat.mod_eq_of_lt hx
theorem mem_rb {q h j x : Nat} : x ∈ rb q h j ↔ x < q ∧ h.testBit x = true := by
  unfold rb
  rw [List.mem_filter, List.mem_map]
  constructor
  · rintro ⟨⟨i, hi, rfl⟩, hb⟩
    have hi := List.mem_range.mp hi
    exact ⟨Nat.mod_lt _ (by omega), hb⟩
  · rintro ⟨hx, hb⟩
    obtain ⟨i, hi, e⟩ := at_of j hx
    exact ⟨⟨i, List.mem_range.mpr hi, e⟩, hb⟩
theorem rb_sorted (q h j : Nat) : (rb q h j).Pairwise (fun a b => ar q j a < ar q j b) := by
  unfold rb
  refine List.Pairwise.filter _ ?_
  rw [List.pairwise_map]
  refine (List.pairwise_lt_range).imp_of_mem fun {a b} ha hb hab => ?_
  rw [ar_at j (List.mem_range.mp ha), ar_at j (List.mem_range.mp hb)]
  omega
theorem ar_inj {q j a b : Nat} (ha : a < q) (hb : b < q) (h : ar q j a = ar q j b) : a = b := by
  obtain ⟨i, hi, rfl⟩ := at_of j ha
  obtain ⟨k, hk, rfl⟩ := at_of j hb
  rw [ar_at j hi, ar_at j hk] at h
  have : i = k := by omega
  rw [this]
theorem uniq_sorted {α : Type} {key : α → Int} : ∀ {l m : List α}, l.Pairwise (fun a b => key a < key b) → m.Pairwise (fun a b => key a < key b) → (∀ x, x ∈ l ↔ x ∈ m) → l = m
  | [], [], _, _, _ => rfl
  | [], b :: m, _, _, h => absurd ((h b).mpr List.mem_cons_self) List.not_mem_nil
  | a :: l, [], _, _, h => absurd ((h a).mp List.mem_cons_self) List.not_mem_nil
  | a :: l, b :: m, hl, hm, h => by
    obtain ⟨l1, l2⟩ := List.pairwise_cons.mp hl
    obtain ⟨m1, m2⟩ := List.pairwise_cons.mp hm
    have e : a = b := by
      rcases List.mem_cons.mp ((h a).mp List.mem_cons_self) with e | ea
      · exact e
      · rcases List.mem_cons.mp ((h b).mpr List.mem_cons_self) with e | eb
        · exact e.symm
        · have x1 := m1 a ea
          have x2 := l1 b eb
          omega
    subst e
    congr 1
    refine uniq_sorted l2 m2 fun x => ⟨fun hx => ?_, fun hx => ?_⟩
    · rcases List.mem_cons.mp ((h x).mp (List.mem_cons_of_mem _ hx)) with e | e
      · subst e
        exact absurd (l1 x hx) (Int.lt_irrefl _)
      · exact e
    · rcases List.mem_cons.mp ((h x).mpr (List.mem_cons_of_mem _ hx)) with e | e
      · subst e
        exact absurd (m1 x hx) (Int.lt_irrefl _)
      · exact e
end Bf
namespace Bf
open PySem PySem.Spec PyProof.Rows L2
/-! ### heaps -/
def Keeps (a : Addr) (H H' : Hp) : Prop := ∀ b o, b ≠ a → H b = some o → H' b = some o
theorem Keeps.refl (a : Addr) (H : Hp) : Keeps a H H := fun _ _ _ h => h
theorem Keeps.trans {a : Addr} {H H1 H2 : Hp} (x : Keeps a H H1) (y : Keeps a H1 H2) : Keeps a H H2 := fun b o n h => y b o n (x b o n h)
theorem Keeps.new {a p : Addr} {H H1 : Hp} {o : HO} (x : Keeps a H H1) (h : H1 p = none) : Keeps a H (upd H1 p o) := fun b u n e => by
  have e1 := x b u n e
  rw [upd_ne (ne_of_none e1 h)]
  exact e1
theorem Keeps.at {a : Addr} {H H1 : Hp} {o : HO} (x : Keeps a H H1) : Keeps a H (upd H1 a o) := fun b u n e => by
  rw [upd_ne n]
  exact x b u n e
theorem same_new {H H1 : Hp} {p : Addr} {o : HO} (x : Same H H1) (h : H1 p = none) : Same H (upd H1 p o) := fun b u e => by
  have e1 := x b u e
  rw [upd_ne (ne_of_none e1 h)]
  exact e1
/-- an expression that gives v, the heap as it was -/
def Gives (t : TE) (σ : L2.St) (H : Hp) (v : V) : Prop := ∀ Q : VK, Q v H → t σ H Q
theorem rd_ifI {tt : TT} {ta tb : TE} {σ : L2.St} {H : Hp} {Q : VK} (b : Bool) (P : Int → Prop) (h0 : ∀ Q' : Bool → Hp → Prop, Q' b H → tt σ H Q') (h1 : b = true → ∃ c : Int, P c ∧ Gives ta σ H (.int c)) (h2 : b = false → ∃ c : Int, P c ∧ Gives tb σ H (.int c))
    (h : ∀ c : Int, P c → Q (.int c) H) : tIf tt ta tb σ H Q := by
  refine h0 _ ?_
  cases b with
  | true => obtain ⟨c, hp, hc⟩ := h1 rfl; exact iteT (hc _ (h c hp))
  | false => obtain ⟨c, hp, hc⟩ := h2 rfl; exact iteF (hc _ (h c hp))
/-- the pot: three numbers at a; n counts what was drawn -/
def Pot (H : Hp) (a : Addr) (n : Nat) : Prop := ∃ x y z : Int, H a = some (.lst [.int x, .int y, .int z]) ∧ 0 ≤ x ∧ 0 ≤ y ∧ y < 4611686018427387904 ∧ 0 ≤ z ∧ z ≤ n
theorem Pot.up {H : Hp} {a : Addr} {n m : Nat} (h : Pot H a n) (l : n ≤ m) : Pot H a m := let ⟨x, y, z, h1, h2, h3, h4, h5, h6⟩ := h; ⟨x, y, z, h1, h2, h3, h4, h5, by omega⟩
theorem Pot.new {H : Hp} {a p : Addr} {n : Nat} {o : HO} (h : Pot H a n) (hp : H p = none) : Pot (upd H p o) a n := let ⟨x, y, z, h1, h2⟩ := h; ⟨x, y, z, by rw [upd_ne (ne_of_none h1 hp)]; exact h1, h2⟩
theorem Pot.same {H H' : Hp} {a : Addr} {n : Nat} (h : Pot H a n) (s : Same H H') : Pot H' a n := let ⟨x, y, z, h1, h2⟩ := h; ⟨x, y, z, s _ _ h1, h2⟩

theorem primes4 (n : Int) (h0 : 0 ≤ n) (h : n < 4) : ∃ v : Int, atI [V.int 2305843009213693951, .int 999999999989, .int 1000000000039, .int 67280421310721] n = some (.int v) ∧ 0 < v := by
  obtain ⟨m, rfl⟩ := Int.eq_ofNat_of_zero_le h0
  match m, h with
  | 0, _ => exact ⟨_, rfl, by decide⟩
  | 1, _ => exact ⟨_, rfl, by decide⟩
  | 2, _ => exact ⟨_, rfl, by decide⟩
  | 3, _ => exact ⟨_, rfl, by decide⟩
theorem nat_of {i : Int} {n : Nat} (h0 : 0 ≤ i) (h : i < n) : ∃ r : Nat, i = (r : Int) ∧ r < n := ⟨i.toNat, by omega, by omega⟩
/-! ### numbers that are not negative -/
section
variable {K : PySem.W.Frag} {f : Addr} {fd : FuncData}
/-! ### tuples that expressions give -/
def GT (K : PySem.W.Frag) (t : TE) (σ : L2.St) (H : Hp) (vs : List V) : Prop := ∀ H1, Same H H1 → ∀ Q : VK, (∀ H2 x, Same H1 H2 → SqT K H2 x vs → Q (.ref x) H2) → t σ H1 Q
theorem dp_tup {H : Hp} {a : Addr} {ns : List Nat} (h : SqT K H a (nv ns)) : Dp K H (.ref a) (.tuple (nd' ns)) := .tup h (dp_nv ns)
end
/-- where a def of the top stands -/
structure DefAt (K : PySem.W.Frag) (x : Str) (st : Stmt) (f : Addr) : Prop where
  at_ : PySem.W.nsIn K mainGlobals x = some (some (.ref f))
  fn : ∃ fd, Fun K x x st f fd
/-! ### tables and pots -/
open LamX NdefX
def KT (a : Addr) (H H' : Hp) : Prop := ∀ b o, b ≠ a → H b = some o → (∀ ps, o ≠ .tbl ps) → H' b = some o
theorem KT.refl (a : Addr) (H : Hp) : KT a H H := fun _ _ _ h _ => h
theorem KT.trans {a : Addr} {H H1 H2 : Hp} (x : KT a H H1) (y : KT a H1 H2) : KT a H H2 := fun b o n h t => y b o n (x b o n h t) t
theorem KT.k {a : Addr} {H H1 : Hp} (x : Keeps a H H1) : KT a H H1 := fun b o n h _ => x b o n h
theorem KT.e {a : Addr} {H H1 : Hp} (x : ExtN H H1) : KT a H H1 := fun b o _ h t => x b o h t
theorem ExtN.s {H H1 : Hp} (x : Same H H1) : ExtN H H1 := ExtN.of x
theorem Pot.ext {H H' : Hp} {a : Addr} {n : Nat} (h : Pot H a n) (s : ExtN H H') : Pot H' a n := let ⟨x, y, z, h1, h2⟩ := h; ⟨x, y, z, s _ _ h1 (fun ps z => nomatch z), h2⟩
theorem tabs_keeps {T : List (Addr × Str)} {H H' : Hp} {a : Addr} {m : Nat} (p : Pot H a m) (t : Tabs T H) (k : Keeps a H H') : Tabs T H' := fun q hq => by
  obtain ⟨x, y, z, hH, _⟩ := p
  obtain ⟨ps, h1, h2, h3⟩ := t q hq
  refine ⟨ps, k _ _ (fun e => ?_) h1, h2, fun pos cv hc => ?_⟩
  · rw [e, hH] at h1
    cases h1
  · obtain ⟨c, e1, e2⟩ := h3 pos cv hc
    refine ⟨c, e1, k _ _ (fun e => ?_) e2⟩
    rw [e, hH] at e2
    unfold CodeO at e2
    cases e2
/-- a def whose body makes a lambda: its code object is at c -/
structure FunT (K : PySem.W.Frag) (x : Str) (st : Stmt) (f : Addr) (fd : FuncData) (c : Addr) : Prop where
  ex : ∃ (oc : Value) (od : Option Addr) (kV doc pm : Value) (an : Option Addr) (ct : Value) (osl : Array (Option Value)),
    fd = PySem.W.fnOf x x (defArgs st) (defBody st) (defScope st) .none kV doc pm an (.ref c) ct ∧ K.lookup f = some ⟨oc, od, .func fd, osl⟩ ∧ PySem.W.codeIn K (.ref c) x = true
  kp : PySem.W.keepIn K (.ref f) = true
theorem FunT.ok {P : Program} {w : World} {K : PySem.W.Frag} {mg : Str → Option Value} {base : Heap} {x : Str} {st : Stmt} {f c : Addr} {fd : FuncData} {N ps : List Str} {k : Nat} {sp : Sp} (F : FunT K x st f fd c) (S : FnScope N ps (defScope st)) (len : ∀ vs H Q E, sp vs H Q E → vs.length = ps.length)
    (hbody : ∀ (A : Around) (outer : List Env) (s : Shared) (H : Hp) (vs : List V) (Q : VK) (E : XK), Room k (A.deeper (envOfC x (defScope st) s.heap.objs.size f (.ref c))) → sp vs H Q E →
      ∃ t, PSs (cxOf CX0 P w K mg base N x (defScope st) f (.ref c) A outer s H E).nox (defBody st) t ∧ t { nx := fun _ H' => Q .non H', rt := Q } (start N vs) H) : FnOk P w K mg base CX0 (k + 1) f fd ps sp := by
  obtain ⟨oc, od, kV, doc, pm, an, ct, osl, rfl, lk, hcd⟩ := F.ex
  refine fn_of lk hcd S len fun A outer s H vs Q E hr hs => ?_
  obtain ⟨t, h, q⟩ := hbody A outer s H vs Q E hr hs
  exact ⟨t, h.nox, q⟩
end Bf
namespace Bf
open PySem PySem.Spec PyProof.Rows L2
/-! ### ways -/
def wf (s : Nat) (ks : List Nat) : Nat := ks.foldl (fun h k => h ^^^ 2 ^ k) s
def wl (s : Nat) (ks : List Nat) : List Nat := (List.range (ks.length + 1)).map fun i => wf s (ks.take i)
/-- the turns behind the first, so many of them -/
def tp (q d j n : Nat) : List Nat := ((List.range n).map fun i => (j + (1 + i)) % q).filter fun k => d.testBit k
theorem tp_lt {q d j n k : Nat} (hq : 0 < q) (h : k ∈ tp q d j n) : k < q := by
  unfold tp at h
  obtain ⟨i, _, rfl⟩ := List.mem_map.mp (List.mem_filter.mp h).1
  exact Nat.mod_lt _ hq
theorem rb_split {q d j : Nat} (hj : j < q) : rb q d j = (if d.testBit j = true then [j] else []) ++ tp q d j (q - 1) := by
  unfold rb tp
  obtain ⟨n, rfl⟩ : ∃ n, q = n + 1 := ⟨q - 1, by omega⟩
  rw [List.range_succ_eq_map, List.map_cons, Nat.add_sub_cancel, Nat.add_zero, Nat.mod_eq_of_lt hj, List.map_map]
  have e : (List.range n).map ((fun i => (j + i) % (n + 1)) ∘ Nat.succ) = (List.range n).map fun i => (j + (1 + i)) % (n + 1) := List.map_congr_left fun i _ => by
    show (j + (i + 1)) % (n + 1) = _
    rw [Nat.add_comm i 1]
  rw [e]
  cases eb : d.testBit j <;> simp [eb]
/-- the bits crossed in tree j -/
def cl (q d j : Nat) : List Nat := j :: tp q d j (q - 1) ++ (if d.testBit j = true then [] else [j])
theorem cl_in {q d j : Nat} (hj : j < q) (h : d.testBit j = true) : cl q d j = rb q d j := by
  rw [rb_split hj]
  unfold cl
  simp [h]
theorem cl_out {q d j : Nat} (hj : j < q) (h : d.testBit j = false) : cl q d j = [j] ++ rb q d j ++ [j] := by
  rw [rb_split hj]
  unfold cl
  simp [h]
theorem cl_lt {q d j k : Nat} (hj : j < q) (h : k ∈ cl q d j) : k < q := by
  unfold cl at h
  rcases List.mem_append.mp h with h | h
  · rcases List.mem_cons.mp h with rfl | h
    · exact hj
    · exact tp_lt (by omega) h
  · split at h
    · exact absurd h List.not_mem_nil
    · rw [List.mem_singleton.mp h]
      exact hj
theorem cl_ne (q d j : Nat) : cl q d j ≠ [] := by
  unfold cl
  simp
end Bf
namespace Bf
open PySem PySem.Spec PyProof.Rows L2 LamX NdefX
/-! ### defs with source=0 behind a star -/
abbrev FunS (K : PySem.W.Frag) (x : Str) (st : Stmt) (f : Addr) (fd : FuncData) : Prop := FunD K x x (defArgs st) (defBody st) (defScope st) [] [("source", .int 0)] f fd
theorem FunS.go {P : Program} {w : World} {K : PySem.W.Frag} {mg : Str → Option Value} {base : Heap} {x : Str} {st : Stmt} {f : Addr} {fd : FuncData} {N ps : List Str} {k : Nat} {sp : Sp} (F : FunS K x st f fd) (S : FnScope N ps (defScope st)) (len : ∀ vs H Q E, sp vs H Q E → vs.length = ps.length)
    (hbody : ∀ (cdv : Value) (A : Around) (outer : List Env) (s : Shared) (H : Hp) (vs : List V) (Q : VK) (E : XK), Room k (A.deeper (envOfC x (defScope st) s.heap.objs.size f cdv)) → sp vs H Q E →
      ∃ t, PSs (cxOf CX0 P w K mg base N x (defScope st) f cdv A outer s H E).nox (defBody st) t ∧ t { nx := fun _ H' => Q .non H', rt := Q } (start N vs) H) : FnOk P w K mg base CX0 (k + 1) f fd ps sp :=
  FunD.ok F S len fun cdv A outer s H vs Q E hr hs => let ⟨t, h, q⟩ := hbody cdv A outer s H vs Q E hr hs; ⟨t, h.nox, q⟩
def g3 {α : Type} (us ws : List α) : List α := match us, ws with
  | [a, b, c], [d] => [a, b, c, d]
  | _, _ => []
/-! ### tuples that expressions give, tables aside -/
end Bf
namespace Bf
open PySem PySem.Spec PyProof.Rows L2
/-! ### who hears whom -/
theorem sorted_last {α : Type} {key : α → Int} {k : α} : ∀ {l : List α}, l.Pairwise (fun a b => key a < key b) → (l.getLast? = some k ↔ k ∈ l ∧ ∀ x ∈ l, key x ≤ key k)
  | [], _ => by simp
  | [a], _ => by
    simp only [List.getLast?_singleton, Option.some.injEq, List.mem_singleton]
    constructor
    · rintro rfl
      exact ⟨rfl, fun x hx => by rw [hx]; exact Int.le_refl _⟩
    · exact fun h => h.1.symm
  | a :: b :: l, hp => by
    obtain ⟨h1, h2⟩ := List.pairwise_cons.mp hp
    have ih := sorted_last (k := k) h2
    rw [List.getLast?_cons_cons, ih]
    constructor
    · rintro ⟨m, h⟩
      refine ⟨List.mem_cons_of_mem _ m, fun x hx => ?_⟩
      rcases List.mem_cons.mp hx with rfl | hx
      · exact Int.le_of_lt (h1 k m)
      · exact h x hx
    · rintro ⟨m, h⟩
      have hb := h1 b List.mem_cons_self
      have hb2 := h b (List.mem_cons_of_mem _ List.mem_cons_self)
      rcases List.mem_cons.mp m with rfl | m
      · omega
      · exact ⟨m, fun x hx => h x (List.mem_cons_of_mem _ hx)⟩
theorem bit_xor (d k x : Nat) : (d ^^^ 2 ^ k).testBit x = (d.testBit x ^^ decide (k = x)) := by rw [Nat.testBit_xor, Nat.testBit_two_pow]
theorem lt_of_bit {d q x : Nat} (hd : d < 2 ^ q) (h : d.testBit x = true) : x < q := Nat.lt_of_not_le fun l => by
  rw [Nat.testBit_lt_two_pow (Nat.lt_of_lt_of_le hd (Nat.pow_le_pow_right (by decide) l))] at h
  cases h
theorem ar_self {q j : Nat} : ar q j j = 0 := by
  unfold ar
  rw [Int.sub_self, Int.zero_emod]
theorem ar_nn {q j x : Nat} (hq : 0 < q) : 0 ≤ ar q j x := Int.emod_nonneg _ (by omega)
/-- k is the last bit crossed to the hand across by k -/
def Hr (q d j k : Nat) : Prop := (cl q (d ^^^ 2 ^ k) j).getLast? = some k
theorem hr_iff {q d j k : Nat} (hj : j < q) (hk : k < q) (hd : d < 2 ^ q) : Hr q d j k ↔ (k = j ∧ (d = 0 ∨ d.testBit j = true)) ∨ (d.testBit j = true ∧ k ≠ j ∧ ∀ x, d.testBit x = true → ar q j x < ar q j k) := by
  have hq : 0 < q := by omega
  have hd' : d ^^^ 2 ^ k < 2 ^ q := Nat.xor_lt_two_pow hd (Nat.pow_lt_pow_right (by decide) hk)
  have bj := bit_xor d k j
  unfold Hr
  by_cases e : k = j
  · subst e
    rw [decide_eq_true rfl] at bj
    cases b : d.testBit k with
    | true =>
      rw [b] at bj
      rw [cl_out hj bj, List.getLast?_append, List.getLast?_singleton]
      simp
    | false =>
      rw [b] at bj
      rw [cl_in hj bj, sorted_last (rb_sorted q _ k)]
      constructor
      · rintro ⟨m, h⟩
        refine .inl ⟨rfl, .inl ?_⟩
        refine Nat.eq_of_testBit_eq fun x => ?_
        rw [Nat.zero_testBit]
        cases bx : d.testBit x with
        | false => rfl
        | true =>
          exfalso
          have hx : x < q := lt_of_bit hd bx
          have hxk : k ≠ x := fun z => by rw [z, bx] at b; cases b
          have hx2 : x ∈ rb q (d ^^^ 2 ^ k) k := mem_rb.mpr ⟨hx, by rw [bit_xor, bx, decide_eq_false hxk]; rfl⟩
          have h1 := h x hx2
          rw [ar_self] at h1
          have h2 := ar_nn (q := q) (j := k) (x := x) hq
          have h3 : ar q k x = ar q k k := by rw [ar_self]; omega
          exact hxk (ar_inj hx hk h3).symm
      · rintro (⟨_, h | h⟩ | ⟨h, _⟩)
        · subst h
          refine ⟨mem_rb.mpr ⟨hk, bj⟩, fun x hx => ?_⟩
          have := (mem_rb.mp hx).2
          rw [bit_xor, Nat.zero_testBit] at this
          have hx : k = x := by simpa using this
          rw [hx]
          exact Int.le_refl _
        · cases h
        · cases h
  · rw [decide_eq_false e, Bool.xor_false] at bj
    cases b : d.testBit j with
    | false =>
      rw [b] at bj
      rw [cl_out hj bj]
      constructor
      · intro h
        rw [List.getLast?_append, List.getLast?_singleton] at h
        exact absurd (Option.some.inj h).symm e
      · rintro (⟨h, _⟩ | ⟨h, _⟩)
        · exact absurd h e
        · cases h
    | true =>
      rw [b] at bj
      rw [cl_in hj bj, sorted_last (rb_sorted q _ j)]
      constructor
      · rintro ⟨m, h⟩
        refine .inr ⟨rfl, e, fun x bx => ?_⟩
        have m2 := (mem_rb.mp m).2
        have hkx : k ≠ x := fun z => by
          rw [bit_xor, z, bx, decide_eq_true rfl] at m2
          cases m2
        have hx : x < q := lt_of_bit hd bx
        have h1 := h x (mem_rb.mpr ⟨hx, by rw [bit_xor, bx, decide_eq_false hkx]; rfl⟩)
        have h2 : ar q j x ≠ ar q j k := fun z => hkx (ar_inj hx hk z).symm
        omega
      · rintro (⟨h, _⟩ | ⟨_, _, h⟩)
        · exact absurd h e
        · have bk : d.testBit k = false := by
            cases z : d.testBit k with
            | false => rfl
            | true => exact absurd (h k z) (Int.lt_irrefl _)
          refine ⟨mem_rb.mpr ⟨hk, by rw [bit_xor, bk, decide_eq_true rfl]; rfl⟩, fun x hx => ?_⟩
          by_cases hkx : k = x
          · rw [hkx]
            exact Int.le_refl _
          · have hx2 := (mem_rb.mp hx).2
            rw [bit_xor, decide_eq_false hkx, Bool.xor_false] at hx2
            exact Int.le_of_lt (h x hx2)
end Bf
namespace Bf
open PySem PySem.Spec PyProof.Rows L2 LamX NdefX
theorem tabs_upd {T : List (Addr × Str)} {H : Hp} {D : Addr} {xs ys : List V} (t : Tabs T H) (h : H D = some (.lst xs)) : Tabs T (upd H D (.lst ys)) := fun y hy => by
  obtain ⟨ps, t1, t2, t3⟩ := t y hy
  refine ⟨ps, ?_, t2, fun pos cv hc => ?_⟩
  · rw [upd_ne (fun e => by rw [e, h] at t1; cases t1)]
    exact t1
  · obtain ⟨c, e1, e2⟩ := t3 pos cv hc
    refine ⟨c, e1, ?_⟩
    rw [upd_ne (fun e => by rw [e, h] at e2; unfold CodeO at e2; cases e2)]
    exact e2
/-! ### small things -/
/-! ### if t: x = e -/
/-! ### crossed of the law -/
end Bf
namespace Bf
open PySem PySem.Spec PyProof.Rows L2
/-! ### once round -/
end Bf
namespace Bf
open PySem PySem.Spec PyProof.Rows L2
/-! ### each neighbour in one tree -/
end Bf
namespace Bf
open PySem PySem.Spec PyProof.Rows L2 LamX NdefX
/-! ### the tree whose turn it is -/
/-! ### a hand's bits, 0 or 1 each -/
def mk (q h : Nat) : List Nat := (List.range q).map fun k => (h.testBit k).toNat
/-! ### rules -/
section
variable {X : Cx}
theorem call_reprA (gd : X.A.guards = some []) (hu : X.A.units + 64 < cLine) : CallR X (.builtin "repr") (fun xs H Q => (xs = [.non] ∧ Q (.str "None") H) ∨ ∃ a d, xs = [.ref a] ∧ Dp X.K H (.ref a) d ∧ d.showable = true ∧ d.hasDict = false ∧ d.depth < 60 ∧ d.shown.length ≤ sizeLine ∧ Q (.str d.shown) H) := by
  intro pins s σ H xs us Q I r h
  rcases h with ⟨rfl, q⟩ | h
  · obtain ⟨u, rfl, ru⟩ := vals1 r
    cases ru
    exact P.repr_of_none ⟨.str "None", H, I.tok _, ⟨_, rfl⟩, q⟩
  · exact call_reprD gd hu pins s σ H xs us Q I r h
end
end Bf
namespace Bf
open PySem PySem.Spec PyProof.Rows L2 LamX NdefX
/-! ### more rules -/
/-! ### source=0 behind a star, by any names -/
def g4 {α : Type} (us ws : List α) : List α := match us, ws with
  | [a, b, c, d], [e] => [a, b, c, d, e]
  | _, _ => []
end Bf
namespace Bf
open PySem PySem.Spec PyProof.Rows L2 LamX NdefX
/-! ### since when -/
end Bf
namespace Bf
open PySem PySem.Spec PyProof.Rows L2 LamX NdefX
/-! ### what is heard, and first heard -/
end Bf
namespace Bf
open PySem PySem.Spec PyProof.Rows L2 LamX NdefX
/-! ### None, truths and numbers as data -/
def sd : V → PyData
  | .non => .none
  | .bl b => .bool b
  | .int n => .int n
  | _ => .none
def SmV (v : V) : Prop := v = .non ∨ (∃ b, v = .bl b) ∨ ∃ n : Nat, n < 2 ^ 61 ∧ v = .int (n : Int)
theorem SmV.non : SmV .non := .inl rfl
theorem SmV.bl (b : Bool) : SmV (.bl b) := .inr (.inl ⟨b, rfl⟩)
theorem SmV.int {n : Nat} (h : n < 2 ^ 61) : SmV (.int (n : Int)) := .inr (.inr ⟨n, h, rfl⟩)
theorem SmV.dp {K : PySem.W.Frag} {H : Hp} {v : V} (h : SmV v) : Dp K H v (sd v) := by
  rcases h with rfl | ⟨b, rfl⟩ | ⟨n, _, rfl⟩
  · exact .non
  · exact .bl _
  · exact .int _
/-! ### the last beat -/
end Bf
namespace Bf
open PySem PySem.Spec PyProof.Rows L2 LamX NdefX
/-! ### each letter once -/
end Bf
namespace Bf
open PySem PySem.Spec PyProof.Rows L2
/-! ### ways grow -/
theorem tp_bit {q d j n : Nat} (hj : j < q) (hn : n < q) : tp q (d ^^^ 2 ^ j) j n = tp q d j n := by
  unfold tp
  refine List.filter_congr fun x hx => ?_
  obtain ⟨i, hi, rfl⟩ := List.mem_map.mp hx
  have hi := List.mem_range.mp hi
  have ea := ar_at (q := q) (i := 1 + i) j (by omega)
  have hne : ¬ j = (j + (1 + i)) % q := fun z => by
    rw [← z, ar_self] at ea
    omega
  rw [bit_xor, decide_eq_false hne, Bool.xor_false]
theorem grow {q d j k : Nat} (hj : j < q) (hk : k < q) (hd : d < 2 ^ q) (hr : Hr q d j k) : (d = 0 → k = j ∧ cl q (d ^^^ 2 ^ k) j = [k]) ∧ (d ≠ 0 → cl q (d ^^^ 2 ^ k) j = cl q d j ++ [k]) := by
  have hq : 0 < q := by omega
  rcases (hr_iff hj hk hd).mp hr with ⟨rfl, h⟩ | ⟨b, hne, hlt⟩
  · constructor
    · intro e
      subst e
      refine ⟨rfl, ?_⟩
      have b1 : (0 ^^^ 2 ^ k).testBit k = true := by rw [bit_xor, Nat.zero_testBit, decide_eq_true rfl]; rfl
      have e1 : tp q (0 ^^^ 2 ^ k) k (q - 1) = tp q 0 k (q - 1) := tp_bit hj (by omega)
      have e2 : tp q 0 k (q - 1) = [] := by
        unfold tp
        simp
      unfold cl
      rw [b1, e1, e2]
      rfl
    · intro e
      have b : d.testBit k = true := h.resolve_left e
      have b1 : (d ^^^ 2 ^ k).testBit k = false := by rw [bit_xor, b, decide_eq_true rfl]; rfl
      have e1 : tp q (d ^^^ 2 ^ k) k (q - 1) = tp q d k (q - 1) := tp_bit hj (by omega)
      unfold cl
      rw [b1, b, e1]
      simp
  · have e0 : d ≠ 0 := fun z => by
      rw [z, Nat.zero_testBit] at b
      cases b
    refine ⟨fun z => absurd z e0, fun _ => ?_⟩
    have hkj : ¬ k = j := hne
    have b1 : (d ^^^ 2 ^ k).testBit j = true := by rw [bit_xor, b, decide_eq_false hkj]; rfl
    have bk : d.testBit k = false := by
      cases z : d.testBit k with
      | false => rfl
      | true => exact absurd (hlt k z) (Int.lt_irrefl _)
    rw [cl_in hj b1, cl_in hj b]
    refine uniq_sorted (key := fun x => ar q j x) (rb_sorted q _ j) ?_ fun x => ?_
    · refine List.pairwise_append.mpr ⟨rb_sorted q d j, List.pairwise_singleton _ _, fun x hx y hy => ?_⟩
      rw [List.mem_singleton.mp hy]
      exact hlt x (mem_rb.mp hx).2
    · rw [List.mem_append, List.mem_singleton, mem_rb, mem_rb, bit_xor]
      by_cases e : k = x
      · subst e
        rw [bk, decide_eq_true rfl]
        simp [hk]
      · rw [decide_eq_false e, Bool.xor_false]
        simp [Ne.symm (show k ≠ x from e)]
/-- back by the last crossing -/
theorem back {q d j : Nat} (hj : j < q) (hd : d < 2 ^ q) : ∃ k, k < q ∧ (cl q d j).getLast? = some k ∧ Hr q (d ^^^ 2 ^ k) j k ∧ d ^^^ 2 ^ k < 2 ^ q ∧ d = (d ^^^ 2 ^ k) ^^^ 2 ^ k := by
  have hne := cl_ne q d j
  have e2 : ∀ k, (d ^^^ 2 ^ k) ^^^ 2 ^ k = d := fun k => by rw [Nat.xor_assoc, Nat.xor_self, Nat.xor_zero]
  have hk : (cl q d j).getLast hne < q := cl_lt hj (List.getLast_mem hne)
  refine ⟨_, hk, List.getLast?_eq_getLast hne, ?_, Nat.xor_lt_two_pow hd (Nat.pow_lt_pow_right (by decide) hk), (e2 _).symm⟩
  unfold Hr
  rw [e2]
  exact List.getLast?_eq_getLast hne
end Bf
namespace Bf
open PySem PySem.Spec PyProof.Rows L2
/-! ### all hands by hearers (for k11) -/
def tl (q j s x : Nat) : Nat := x ^^^ 2 ^ ((cl q (x ^^^ s) j).getLast (cl_ne _ _ _))
theorem reach {q j s : Nat} (hj : j < q) (hs : s < 2 ^ q) {P : Nat → Prop} (h0 : P s) (hP : ∀ h x, P h → x < 2 ^ q → tl q j s x = h → x ≠ s → P x) : ∀ (n x : Nat), x < 2 ^ q → (cl q (x ^^^ s) j).length ≤ n → x ≠ s → P x
  | 0, x, hx, hl, _ => absurd (List.length_pos_iff.mpr (cl_ne q (x ^^^ s) j)) (by omega)
  | n + 1, x, hx, hl, hne => by
    have hd : x ^^^ s < 2 ^ q := Nat.xor_lt_two_pow hx hs
    obtain ⟨k, hk, hlast, hr, hd', ed⟩ := back hj hd
    have et : tl q j s x = x ^^^ 2 ^ k := by
      rw [List.getLast?_eq_getLast (cl_ne _ _ _)] at hlast
      unfold tl
      rw [Option.some.inj hlast]
    have e1 : x ^^^ 2 ^ k ^^^ s = x ^^^ s ^^^ 2 ^ k := by rw [Nat.xor_assoc, Nat.xor_comm (2 ^ k) s, ← Nat.xor_assoc]
    refine hP (tl q j s x) x ?_ hx rfl hne
    rw [et]
    by_cases z : x ^^^ 2 ^ k = s
    · rw [z]
      exact h0
    · have z2 : x ^^^ s ^^^ 2 ^ k ≠ 0 := fun y => z (by
        rw [← e1] at y
        have := congrArg (· ^^^ s) y
        simpa [Nat.xor_assoc] using this)
      have g := (grow hj hk hd' hr).2 z2
      rw [← ed] at g
      refine reach hj hs h0 hP n (x ^^^ 2 ^ k) (Nat.xor_lt_two_pow hx (Nat.pow_lt_pow_right (by decide) hk)) ?_ z
      rw [e1]
      rw [g, List.length_append] at hl
      have : (cl q (x ^^^ s ^^^ 2 ^ k) j).length + 1 ≤ n + 1 := hl
      omega
end Bf
namespace Bf
open PySem PySem.Spec PyProof.Rows L2
/-! ### delays counted (for k11) -/
end Bf
namespace Bf
open PySem PySem.Spec PyProof.Rows L2 LamX NdefX
/-! ### how many hands have a letter -/
end Bf
namespace Bf
open PySem PySem.Spec PyProof.Rows L2 LamX NdefX
def g5 {α : Type} (us ws : List α) : List α := match us, ws with
  | [a, b, c, d, e], [f] => [a, b, c, d, e, f]
  | _, _ => []
end Bf
namespace Bf
open PySem PySem.Spec PyProof.Rows L2 LamX NdefX
/-! ### the first beat from one on that crosses a bit of the set -/
end Bf
namespace Bf
/-! ### letters of each tree, counted -/
end Bf
namespace Bf
open PySem PySem.Spec PyProof.Rows L2 LamX NdefX
/-! ### all by names, in any order -/
theorem vals_get {zs : List V} {ws : List Value} (r : Vals zs ws) : ∀ i : Nat, (zs[i]? = none ∧ ws[i]? = none) ∨ ∃ z w, zs[i]? = some z ∧ ws[i]? = some w ∧ RelV z w := by
  induction r with
  | nil => exact fun i => .inl ⟨by simp, by simp⟩
  | cons a r ih =>
    intro i
    cases i with
    | zero => exact .inr ⟨_, _, rfl, rfl, a⟩
    | succ i => simpa using ih i
theorem gP_pick {zs : List V} {ws : List Value} (r : Vals zs ws) : ∀ π : List Nat, Vals (π.filterMap (fun i => zs[i]?)) (π.filterMap (fun i => ws[i]?))
  | [] => .nil
  | i :: π => by
    have ih := gP_pick r π
    rcases vals_get r i with ⟨e1, e2⟩ | ⟨z, w, e1, e2, rz⟩
    · rw [List.filterMap_cons_none e1, List.filterMap_cons_none e2]
      exact ih
    · rw [List.filterMap_cons_some e1, List.filterMap_cons_some e2]
      exact .cons rz ih
/-! ### data of some kinds in a list -/
structure Okd (d : PyData) : Prop where
  sh : d.showable = true
  di : d.hasDict = false
  de : d.depth ≤ 2
  lv : d.leavesShort 64 = true
  we : d.weight ≤ 200
theorem okd_none : Okd .none := ⟨rfl, rfl, by decide, rfl, by decide⟩
theorem okd_bool (b : Bool) : Okd (.bool b) := by cases b <;> exact ⟨rfl, rfl, by decide, rfl, by decide⟩
theorem okd_int {n : Nat} (h : n < 2 ^ 61) : Okd (.int (n : Int)) := by
  have h1 : ∀ x ∈ [n], x < 2 ^ 61 := fun x hx => by rw [List.mem_singleton.mp hx]; exact h
  have a1 : (PyData.showable (.int (n : Int)) && PyData.showableAll []) = true := nd_show [n] h1
  have a2 : (PyData.leavesShort 64 (.int (n : Int)) && PyData.leavesShortAll 64 []) = true := nd_leaves [n] h1
  have a3 : PyData.weight (.int (n : Int)) + 1 + PyData.weightAll [] ≤ 63 * 1 := nd_weight [n] h1
  exact ⟨(Bool.and_eq_true _ _ ▸ a1).1, rfl, Nat.le_trans (by show PyData.depth (.int _) ≤ 1; simp [PyData.depth]) (by decide), (Bool.and_eq_true _ _ ▸ a2).1, by omega⟩
/-- what stands for itself -/
def vD : V → PyData
  | .non => .none
  | .bl b => .bool b
  | .int i => .int i
  | _ => .none
def Imm (v : V) : Prop := v = .non ∨ (∃ b, v = .bl b) ∨ ∃ n : Nat, n < 2 ^ 61 ∧ v = .int (n : Int)
theorem Imm.dp {K : PySem.W.Frag} {H : Hp} {v : V} (h : Imm v) : Dp K H v (vD v) := by
  rcases h with rfl | ⟨b, rfl⟩ | ⟨n, _, rfl⟩
  · exact .non
  · exact .bl b
  · exact .int _
theorem Imm.ok {v : V} (h : Imm v) : Okd (vD v) := by
  rcases h with rfl | ⟨b, rfl⟩ | ⟨n, hn, rfl⟩
  · exact okd_none
  · exact okd_bool b
  · exact okd_int hn
/-- a pair or nothing -/
def PrO (H : Hp) (v : V) (o : Option (Nat × Nat)) : Prop := match o with
  | none => v = .non
  | some ab => ∃ p, v = .ref p ∧ H p = some (.tup (nv [ab.1, ab.2]))
def oD : Option (Nat × Nat) → PyData
  | none => .none
  | some ab => .tuple (nd' [ab.1, ab.2])
theorem PrO.ext {H H' : Hp} {v : V} {o : Option (Nat × Nat)} (h : PrO H v o) (x : ExtN H H') : PrO H' v o := by
  cases o with
  | none => exact h
  | some ab =>
    obtain ⟨p, e, hp⟩ := h
    exact ⟨p, e, x _ _ hp (fun ps z => nomatch z)⟩
theorem PrO.dp {K : PySem.W.Frag} {H : Hp} {v : V} {o : Option (Nat × Nat)} (h : PrO H v o) : Dp K H v (oD o) := by
  cases o with
  | none =>
    have h : v = .non := h
    subst h
    exact .non
  | some ab =>
    obtain ⟨p, rfl, hp⟩ := h
    exact .tup (.inl (.inl hp)) (dp_nv _)
end Bf
namespace Bf
open PySem PySem.Spec PyProof.Rows L2 LamX NdefX
def PotC (H : Hp) (a : Addr) (n : Nat) : Prop := ∃ x y z : Int, H a = some (.lst [.int x, .int y, .int z]) ∧ 0 ≤ x ∧ 0 ≤ y ∧ y < 4611686018427387904 ∧ 0 ≤ z ∧ z ≤ n
theorem PotC.up {H : Hp} {a : Addr} {n m : Nat} (h : PotC H a n) (l : n ≤ m) : PotC H a m := let ⟨x, y, z, h1, h2, h3, h4, h5, h6⟩ := h; ⟨x, y, z, h1, h2, h3, h4, h5, by omega⟩
theorem PotC.new {H : Hp} {a p : Addr} {n : Nat} {o : HO} (h : PotC H a n) (hp : H p = none) : PotC (upd H p o) a n := let ⟨x, y, z, h1, h2⟩ := h; ⟨x, y, z, by rw [upd_ne (ne_of_none h1 hp)]; exact h1, h2⟩
theorem PotC.same {H H' : Hp} {a : Addr} {n : Nat} (h : PotC H a n) (s : Same H H') : PotC H' a n := let ⟨x, y, z, h1, h2⟩ := h; ⟨x, y, z, s _ _ h1, h2⟩

theorem PotC.ext {H H' : Hp} {a : Addr} {n : Nat} (h : PotC H a n) (s : ExtN H H') : PotC H' a n := let ⟨x, y, z, h1, h2⟩ := h; ⟨x, y, z, s _ _ h1 (fun ps z => nomatch z), h2⟩
end Bf
namespace Bf
open PySem PySem.Spec PyProof.Rows L2 LamX NdefX
/-! ### tellings -/
abbrev Trip := Nat × Nat × Nat
def bD (x : Trip) : PyData := .tuple (nd' [x.1, x.2.1, x.2.2])
def KTu (H H' : Hp) : Prop := ∀ p ns, H p = some (.tup ns) → H' p = some (.tup ns)
theorem KTu.trans {A B C : Hp} (x : KTu A B) (y : KTu B C) : KTu A C := fun p ns h => y p ns (x p ns h)
def TrA (H : Hp) : List V → List Trip → Prop
  | [], [] => True
  | v :: vs, x :: xs => (∃ p, v = .ref p ∧ H p = some (.tup (nv [x.1, x.2.1, x.2.2]))) ∧ TrA H vs xs
  | _, _ => False
theorem TrA.mono {H H' : Hp} (k : KTu H H') : ∀ {vs : List V} {xs : List Trip}, TrA H vs xs → TrA H' vs xs
  | [], [], _ => trivial
  | v :: vs, x :: xs, ⟨⟨p, e, h⟩, r⟩ => ⟨⟨p, e, k _ _ h⟩, TrA.mono k r⟩
  | [], _ :: _, h => h.elim
  | _ :: _, [], h => h.elim
theorem TrA.snoc {H : Hp} {v : V} {x : Trip} (hv : ∃ p, v = .ref p ∧ H p = some (.tup (nv [x.1, x.2.1, x.2.2]))) : ∀ {vs : List V} {xs : List Trip}, TrA H vs xs → TrA H (vs ++ [v]) (xs ++ [x])
  | [], [], _ => ⟨hv, trivial⟩
  | _ :: _, _ :: _, ⟨h, r⟩ => ⟨h, TrA.snoc hv r⟩
  | [], _ :: _, h => h.elim
  | _ :: _, [], h => h.elim
theorem TrA.len {H : Hp} : ∀ {vs : List V} {xs : List Trip}, TrA H vs xs → vs.length = xs.length
  | [], [], _ => rfl
  | _ :: _, _ :: _, ⟨_, r⟩ => by rw [List.length_cons, List.length_cons, r.len]
  | [], _ :: _, h => h.elim
  | _ :: _, [], h => h.elim
theorem TrA.dp {K : PySem.W.Frag} {H : Hp} : ∀ {vs : List V} {xs : List Trip}, TrA H vs xs → DpAll K H vs (xs.map bD)
  | [], [], _ => .nil
  | _ :: _, x :: _, ⟨⟨p, e, h⟩, r⟩ => by subst e; exact .cons (dp_tup (ns := [x.1, x.2.1, x.2.2]) (.inl (.inl h))) r.dp
  | [], _ :: _, h => h.elim
  | _ :: _, [], h => h.elim
def BtA (H : Hp) : List V → List (List Trip) → Prop
  | [], [] => True
  | v :: vs, x :: xs => (∃ p us, v = .ref p ∧ H p = some (.tup us) ∧ TrA H us x) ∧ BtA H vs xs
  | _, _ => False
theorem BtA.mono {H H' : Hp} (k : KTu H H') : ∀ {vs : List V} {xs : List (List Trip)}, BtA H vs xs → BtA H' vs xs
  | [], [], _ => trivial
  | v :: vs, x :: xs, ⟨⟨p, us, e, h, t⟩, r⟩ => ⟨⟨p, us, e, k _ _ h, t.mono k⟩, BtA.mono k r⟩
  | [], _ :: _, h => h.elim
  | _ :: _, [], h => h.elim
theorem BtA.snoc {H : Hp} {v : V} {x : List Trip} (hv : ∃ p us, v = .ref p ∧ H p = some (.tup us) ∧ TrA H us x) : ∀ {vs : List V} {xs : List (List Trip)}, BtA H vs xs → BtA H (vs ++ [v]) (xs ++ [x])
  | [], [], _ => ⟨hv, trivial⟩
  | _ :: _, _ :: _, ⟨h, r⟩ => ⟨h, BtA.snoc hv r⟩
  | [], _ :: _, h => h.elim
  | _ :: _, [], h => h.elim
theorem BtA.len {H : Hp} : ∀ {vs : List V} {xs : List (List Trip)}, BtA H vs xs → vs.length = xs.length
  | [], [], _ => rfl
  | _ :: _, _ :: _, ⟨_, r⟩ => by rw [List.length_cons, List.length_cons, r.len]
  | [], _ :: _, h => h.elim
  | _ :: _, [], h => h.elim
def pD (ts : List Trip) : PyData := .tuple (ts.map bD)
theorem BtA.dp {K : PySem.W.Frag} {H : Hp} : ∀ {vs : List V} {xs : List (List Trip)}, BtA H vs xs → DpAll K H vs (xs.map pD)
  | [], [], _ => .nil
  | _ :: _, x :: _, ⟨⟨p, us, e, h, t⟩, r⟩ => by subst e; exact .cons (.tup (.inl (.inl h)) t.dp) r.dp
  | [], _ :: _, h => h.elim
  | _ :: _, [], h => h.elim
/-! ### how they are shown -/
structure Ok2 (d : PyData) (W D : Nat) : Prop where
  sh : d.showable = true
  di : d.hasDict = false
  de : d.depth ≤ D
  lv : d.leavesShort 64 = true
  we : d.weight ≤ W
  ca : d.canLay0 = true
/-! ### how far the next bit is -/
end Bf
namespace Bf
open PySem PySem.Spec PyProof.Rows L2 LamX NdefX
/-! ### t * k for k from 0 on -/
theorem tuple_mulZ (l : Addr) (items : Array Value) (n : Nat) (dd : Option Addr) (sl : Array (Option Value)) (x : Int) (u : Tok) (c0 : (decide (x < -(2 ^ 63)) || decide (x ≥ 2 ^ 63)) = false) (c1 : (items.isEmpty || x == 1) = false) (c2 : (decide (x ≤ 0) || items.isEmpty) = true) :
    Meets (Builtin.«tuple.__mul__» ⟨[.ref l, .int x u], []⟩) (fun _ R s => s.heap.get? l = some { cls := .type "tuple", dict := dd, data := .seq items n, slots := sl } ∧
      R (.ok (.ret (Value.ref s.heap.objs.size))) { s with heap := s.heap.push { cls := Value.type "tuple", data := Data.seq #[] }, toks := s.toks }) :=
  .of_wp fun prog w A R s h => by
    obtain ⟨hp, g, d, tk, os⟩ := s
    obtain ⟨hl, h⟩ := h
    have f1 := AutoSeq1.idx_int
    wp_walk using wpAny_loadPart' hl
    repeat (first
      | (refine wpAny_ite_false (decide_eq_false (by rw [c0]; exact Bool.false_ne_true)) ?_; wp_walk using wpAny_loadPart' hl)
      | (refine wpAny_ite_false (decide_eq_false (by rw [c1]; exact Bool.false_ne_true)) ?_; wp_walk using wpAny_loadPart' hl)
      | (refine wpAny_ite_true (decide_eq_true c2) ?_; wp_walk using wpAny_loadPart' hl))
    exact ⟨_, rfl, h⟩
def rRepZ (K : PySem.W.Frag) : R2 := fun x y H Q => ∃ l k xs, x = .ref l ∧ y = .int k ∧ SqT K H l xs ∧ xs ≠ [] ∧ 0 ≤ k ∧ k ≤ 1000 ∧ xs.length ≤ 1000 ∧
  (k = 1 → Q (.ref l) H) ∧ (k ≠ 1 → ∀ p, H p = none → Q (.ref p) (upd H p (.tup (List.replicate k.toNat xs).flatten)))
theorem op_repZ {X : Cx} : OpR X (binaryOp .Mult) (rRepZ X.K) := by
  intro pins s σ H x y v u Q I rx ry h
  obtain ⟨l, k, xs, rfl, rfl, hT, hne, h1, h2, hz, q1, q2⟩ := h
  by_cases hk : 2 ≤ k
  · exact op_repT pins s σ H _ _ v u Q I rx ry ⟨l, k, xs, rfl, rfl, hT, hne, hk, h2, hz, q2 (by omega)⟩
  cases rx
  obtain ⟨t, rfl⟩ := ry
  obtain ⟨its, r, ⟨⟨cls, dd, data, sl⟩, ho, hc, n, hd⟩, hs⟩ := I.tuple hT
  simp only at hc hd
  subst hc hd
  have hle : its.length = xs.length := r.length.symm
  have hn : its ≠ [] := fun e => hne (by
    rw [e] at hle
    exact List.eq_nil_of_length_eq_zero hle.symm)
  have hi : its.toArray.isEmpty = false := by
    cases its with
    | nil => exact absurd rfl hn
    | cons a b => rfl
  have c0 : (decide (k < -(2 ^ 63)) || decide (k ≥ 2 ^ 63)) = false := by
    rw [decide_eq_false (by omega), decide_eq_false (by omega)] <;> rfl
  by_cases h0 : k = 1
  · subst h0
    exact wpAny_binaryOp_repeat_ref (T := "tuple") (U := "int") (by decide) ⟨_, ho, rfl⟩ (fun s' => typeIs_int s' 1 t) noFill_tuple_mul F.fills_int_mul F.slot_int_rmul repeat_tuple F.slot_int_index.lookup
      (call_meets F.slot_int_rmul (typeIs_int s 1 t) F.entry_int_rmul (F.args_int_rmul_2 _ _) (int_rmul_tuple 1 t l its.toArray n dd sl)
        ⟨ho, rfl, ⟨_, ho, rfl⟩, call_meets F.slot_tuple_mul ⟨_, ho, rfl⟩ F.entry_tuple_mul (F.args_tuple_mul_2 _ _) (tuple_mul0 l its.toArray n dd sl 1 t c0 (by rw [hi]; rfl)) ⟨ho, ⟨.ref l, H, I, rfl, q1 rfl⟩⟩⟩)
  · have hk0 : k = 0 := by omega
    subst hk0
    have c1 : (its.toArray.isEmpty || (0 : Int) == 1) = false := by
      rw [hi]
      rfl
    have c2 : (decide ((0 : Int) ≤ 0) || its.toArray.isEmpty) = true := rfl
    refine wpAny_binaryOp_repeat_ref (T := "tuple") (U := "int") (by decide) ⟨_, ho, rfl⟩ (fun s' => typeIs_int s' 0 t) noFill_tuple_mul F.fills_int_mul F.slot_int_rmul repeat_tuple F.slot_int_index.lookup
      (call_meets F.slot_int_rmul (typeIs_int s 0 t) F.entry_int_rmul (F.args_int_rmul_2 _ _) (int_rmul_tuple 0 t l its.toArray n dd sl)
        ⟨ho, rfl, ⟨_, ho, rfl⟩, call_meets F.slot_tuple_mul ⟨_, ho, rfl⟩ F.entry_tuple_mul (F.args_tuple_mul_2 _ _) (tuple_mulZ l its.toArray n dd sl 0 t c0 c1 c2) ⟨ho, ?_⟩⟩)
    refine ⟨.ref s.heap.objs.size, _, I.laid (t' := s.toks) (o := .tup (List.replicate (0 : Int).toNat xs).flatten) (fun b ob q => Heap.get?_push_of_some _ q) (Nat.le_refl _) ?_, rfl, q2 (by decide) _ (I.hok.fresh (Nat.le_refl _))⟩
    exact ⟨Nat.zero_le _, [], .nil, IsTup.new _ _⟩
/-! ### walks -/
/-! ### what a row comes to -/
/-! ### how rows are shown -/
end Bf
namespace Bf
open PySem PySem.Spec PyProof.Rows L2 LamX NdefX
/-! ### t * k for any small k -/
def rRepI (K : PySem.W.Frag) : R2 := fun x y H Q => ∃ l k xs, x = .ref l ∧ y = .int k ∧ SqT K H l xs ∧ xs ≠ [] ∧ -1000 ≤ k ∧ k ≤ 1000 ∧ xs.length ≤ 1000 ∧
  (k = 1 → Q (.ref l) H) ∧ (k ≠ 1 → ∀ p, H p = none → Q (.ref p) (upd H p (.tup (List.replicate k.toNat xs).flatten)))
theorem op_repI {X : Cx} : OpR X (binaryOp .Mult) (rRepI X.K) := by
  intro pins s σ H x y v u Q I rx ry h
  obtain ⟨l, k, xs, rfl, rfl, hT, hne, h1, h2, hz, q1, q2⟩ := h
  by_cases hk : 0 ≤ k
  · exact op_repZ pins s σ H _ _ v u Q I rx ry ⟨l, k, xs, rfl, rfl, hT, hne, hk, h2, hz, q1, q2⟩
  cases rx
  obtain ⟨t, rfl⟩ := ry
  obtain ⟨its, r, ⟨⟨cls, dd, data, sl⟩, ho, hc, n, hd⟩, hs⟩ := I.tuple hT
  simp only at hc hd
  subst hc hd
  have hle : its.length = xs.length := r.length.symm
  have hi : its.toArray.isEmpty = false := by
    cases its with
    | nil => exact absurd (List.eq_nil_of_length_eq_zero hle.symm) hne
    | cons a b => rfl
  have c0 : (decide (k < -(2 ^ 63)) || decide (k ≥ 2 ^ 63)) = false := by
    rw [decide_eq_false (by omega), decide_eq_false (by omega)] <;> rfl
  have c1 : (its.toArray.isEmpty || k == 1) = false := by
    rw [hi, Bool.false_or]
    exact beq_eq_false_iff_ne.mpr (by omega)
  have c2 : (decide (k ≤ 0) || its.toArray.isEmpty) = true := by rw [decide_eq_true (show k ≤ 0 by omega)]; rfl
  have e0 : k.toNat = 0 := by omega
  refine wpAny_binaryOp_repeat_ref (T := "tuple") (U := "int") (by decide) ⟨_, ho, rfl⟩ (fun s' => typeIs_int s' k t) noFill_tuple_mul F.fills_int_mul F.slot_int_rmul repeat_tuple F.slot_int_index.lookup
    (call_meets F.slot_int_rmul (typeIs_int s k t) F.entry_int_rmul (F.args_int_rmul_2 _ _) (int_rmul_tuple k t l its.toArray n dd sl)
      ⟨ho, rfl, ⟨_, ho, rfl⟩, call_meets F.slot_tuple_mul ⟨_, ho, rfl⟩ F.entry_tuple_mul (F.args_tuple_mul_2 _ _) (tuple_mulZ l its.toArray n dd sl k t c0 c1 c2) ⟨ho, ?_⟩⟩)
  refine ⟨.ref s.heap.objs.size, _, I.laid (t' := s.toks) (o := .tup (List.replicate k.toNat xs).flatten) (fun b ob q => Heap.get?_push_of_some _ q) (Nat.le_refl _) ?_, rfl, q2 (by omega) _ (I.hok.fresh (Nat.le_refl _))⟩
  rw [e0]
  exact ⟨Nat.zero_le _, [], .nil, IsTup.new _ _⟩
end Bf
namespace Bf
open PySem PySem.Spec PyProof.Rows L2
open AutoSeq1 (wpAny_loadPart')
/-! ### enumerate(tuple) -/
end Bf
namespace Bf
open PySem PySem.Spec PyProof.Rows L2 LamX NdefX
/-! ### small things for k11 -/
theorem pigeon {l : List Nat} {n : Nat} (nd : l.Nodup) (h : ∀ x ∈ l, x < n) : l.length ≤ n := by
  have p : l.Perm ((List.range n).filter fun x => decide (x ∈ l)) := by
    refine (List.perm_ext_iff_of_nodup nd (List.Pairwise.filter _ List.nodup_range)).mpr fun x => ?_
    rw [List.mem_filter, List.mem_range]
    exact ⟨fun hx => ⟨h x hx, decide_eq_true hx⟩, fun hx => of_decide_eq_true hx.2⟩
  rw [p.length_eq]
  have := List.length_filter_le (fun x => decide (x ∈ l)) (List.range n)
  rw [List.length_range] at this
  exact this
structure GI (q j s : Nat) (P W : List Nat) (ps : List (Nat × Nat)) : Prop where
  nd : (P ++ W).Nodup
  lt : ∀ x ∈ P ++ W, x < 2 ^ q
  src : s ∈ P ++ W
  par : ∀ x ∈ P ++ W, x ≠ s → tl q j s x ∈ P
  pnd : (ps.map (·.2)).Nodup
  pm : ∀ x, x ∈ ps.map (·.2) ↔ x < 2 ^ q ∧ tl q j s x ∈ P
  pt : ∀ pr ∈ ps, pr.1 = tl q j s pr.2
  cls : ∀ h x, h ∈ P → x < 2 ^ q → tl q j s x = h → x ≠ s → x ∈ P ++ W
theorem GI.start {q j s : Nat} (hs : s < 2 ^ q) : GI q j s [] [s] [] where
  nd := by simp
  lt := fun x hx => by
    have : x = s := by simpa using hx
    rw [this]
    exact hs
  src := by simp
  par := fun x hx hne => absurd (by simpa using hx) hne
  pnd := List.Pairwise.nil
  pm := fun x => by simp
  pt := fun pr h => absurd h List.not_mem_nil
  cls := fun h x hh => absurd hh List.not_mem_nil
theorem tl_lt {q j s x : Nat} (hj : j < q) (hx : x < 2 ^ q) : tl q j s x < 2 ^ q := Nat.xor_lt_two_pow hx (Nat.pow_lt_pow_right (by decide) (cl_lt hj (List.getLast_mem _)))
theorem GI.all {q j s : Nat} {P : List Nat} {ps : List (Nat × Nat)} (hj : j < q) (hs : s < 2 ^ q) (g : GI q j s P [] ps) : ∀ x, x ∈ ps.map (·.2) ↔ x < 2 ^ q := fun x => by
  have src : s ∈ P := by simpa using g.src
  have all : ∀ y, y < 2 ^ q → y ∈ P := fun y hy => by
    by_cases e : y = s
    · rw [e]
      exact src
    · exact reach (P := fun z => z ∈ P) hj hs src (fun h x a b c d => by simpa using g.cls h x a b c d) _ y hy (Nat.le_refl _) e
  rw [g.pm]
  exact ⟨fun h => h.1, fun h => ⟨h, all _ (tl_lt hj h)⟩⟩
theorem GI.len {q j s : Nat} {P W : List Nat} {ps : List (Nat × Nat)} (g : GI q j s P W ps) : ps.length ≤ 2 ^ q ∧ P.length ≤ 2 ^ q := by
  constructor
  · have := pigeon g.pnd (n := 2 ^ q) fun x hx => ((g.pm x).mp hx).1
    rw [List.length_map] at this
    exact this
  · have := pigeon g.nd g.lt
    rw [List.length_append] at this
    omega
end Bf
namespace Bf
open PySem PySem.Spec PyProof.Rows L2 LamX NdefX
/-! ## data that values stand for; fp: the lists and dicts in it -/
def kD : Key → PyData
  | .inl i => .int i
  | .inr x => .str x
/-- a tuple as it is made -/
def TupR (H : Hp) (a : Addr) (xs : List V) : Prop := H a = some (.tup xs)
theorem TupR.q {K : PySem.W.Frag} {H : Hp} {a : Addr} {xs : List V} (h : TupR H a xs) : SqT K H a xs := .inl (.inl h)
theorem TupR.same {H H' : Hp} {a : Addr} {xs : List V} (s : Same H H') (h : TupR H a xs) : TupR H' a xs := s _ _ h
/-- what may change -/
def Mtb : HO → Prop
  | .lst _ => True
  | .dK _ => True
  | .dT _ => True
  | .ins _ _ _ => True
  | _ => False
mutual
inductive Im (K : PySem.W.Frag) (H : Hp) : V → PyData → List Addr → Prop
  | non : Im K H .non .none []
  | bl (b : Bool) : Im K H (.bl b) (.bool b) []
  | int (i : Int) : Im K H (.int i) (.int i) []
  | str (x : Str) : Im K H (.str x) (.str x) []
  | lst {a : Addr} {xs : List V} {ds : List PyData} {fp fq : List Addr} : H a = some (.lst xs) → ImA K H xs ds fp → fq = a :: fp → Im K H (.ref a) (.list ds) fq
  | tup {a : Addr} {xs : List V} {ds : List PyData} {fp : List Addr} : TupR H a xs → ImA K H xs ds fp → Im K H (.ref a) (.tuple ds) fp
  | dicK {a : Addr} {kvs : List (Key × V)} {ps : List (PyData × PyData)} {ds : List PyData} {fp fq : List Addr} : H a = some (.dK kvs) → ps.map Prod.fst = kvs.map (fun kv => kD kv.1) → ps.map Prod.snd = ds → ImA K H (kvs.map Prod.snd) ds fp → fq = a :: fp → Im K H (.ref a) (.dict ((.none, .none) :: ps)) fq
  | dicT {a : Addr} {kvs : List (List Key × V)} {ps : List (PyData × PyData)} {ds : List PyData} {fp fq : List Addr} : H a = some (.dT kvs) → ps.map Prod.fst = kvs.map (fun kv => .tuple (kv.1.map kD)) → ps.map Prod.snd = ds → ImA K H (kvs.map Prod.snd) ds fp → fq = a :: fp → Im K H (.ref a) (.dict ps) fq
  | ins {a dx : Addr} {cn : Str} {mk : PyData} {fs : List (Str × V)} {ps : List (PyData × PyData)} {ds : List PyData} {fp fq : List Addr} : (mk = .bool true ∨ mk = .int (a : Int)) → H a = some (.ins (He.ga K cn) dx fs) → ps.map Prod.fst = fs.map (fun f => .str f.1) → ps.map Prod.snd = ds → ImA K H (fs.map Prod.snd) ds fp → fq = a :: fp → Im K H (.ref a) (.dict ((mk, .str cn) :: ps)) fq
  | pin {a : Addr} {d : PyData} {fp : List Addr} : Im K H (.ref a) d fp → Im K H (.ref a) (.dict [(.int (a : Int), d)]) fp
inductive ImA (K : PySem.W.Frag) (H : Hp) : List V → List PyData → List Addr → Prop
  | nil : ImA K H [] [] []
  | cons {v : V} {vs : List V} {d : PyData} {ds : List PyData} {fp fq fr : List Addr} : Im K H v d fp → ImA K H vs ds fq → fr = fp ++ fq → ImA K H (v :: vs) (d :: ds) fr
end
section
variable {K : PySem.W.Frag} {H H' : Hp}
theorem Im.stab (ht : ∀ b xs, TupR H b xs → TupR H' b xs) (d : PyData) (v : V) (fp : List Addr) (h : Im K H v d fp) : (∀ b ∈ fp, ∀ o, H b = some o → Mtb o → H' b = some o) → Im K H' v d fp := by
  refine Im.rec (motive_1 := fun v d fp _ => (∀ b ∈ fp, ∀ o, H b = some o → Mtb o → H' b = some o) → Im K H' v d fp) (motive_2 := fun vs ds fp _ => (∀ b ∈ fp, ∀ o, H b = some o → Mtb o → H' b = some o) → ImA K H' vs ds fp) ?_ ?_ ?_ ?_ ?_ ?_ ?_ ?_ ?_ ?_ ?_ ?_ h
  · exact fun _ => .non
  · exact fun b _ => .bl b
  · exact fun b _ => .int b
  · exact fun b _ => .str b
  · rintro a xs ds fp fq e _ q ih hl
    subst q
    exact .lst (hl _ List.mem_cons_self _ e trivial) (ih fun b hb => hl b (List.mem_cons_of_mem _ hb)) rfl
  · exact fun e _ ih hl => .tup (ht _ _ e) (ih hl)
  · rintro a kvs ps ds fp fq e e1 e2 _ q ih hl
    subst q
    exact .dicK (hl _ List.mem_cons_self _ e trivial) e1 e2 (ih fun b hb => hl b (List.mem_cons_of_mem _ hb)) rfl
  · rintro a kvs ps ds fp fq e e1 e2 _ q ih hl
    subst q
    exact .dicT (hl _ List.mem_cons_self _ e trivial) e1 e2 (ih fun b hb => hl b (List.mem_cons_of_mem _ hb)) rfl
  · rintro a dx cn mk fs ps ds fp fq em e e1 e2 _ q ih hl
    subst q
    exact .ins em (hl _ List.mem_cons_self _ e trivial) e1 e2 (ih fun b hb => hl b (List.mem_cons_of_mem _ hb)) rfl
  · exact fun _ ih hl => .pin (ih hl)
  · exact fun _ => .nil
  · rintro v vs d ds fp fq fr _ _ q ih1 ih2 hl
    subst q
    exact .cons (ih1 fun x hx => hl x (List.mem_append_left _ hx)) (ih2 fun x hx => hl x (List.mem_append_right _ hx)) rfl
theorem ImA.stab (ht : ∀ b xs, TupR H b xs → TupR H' b xs) : ∀ (ds : List PyData) (vs : List V) (fp : List Addr), ImA K H vs ds fp → (∀ b ∈ fp, ∀ o, H b = some o → Mtb o → H' b = some o) → ImA K H' vs ds fp
  | [], _, _, h, _ => by cases h; exact .nil
  | d :: ds, _, _, h, hl => by
    cases h with
    | cons a b q =>
      subst q
      exact .cons (Im.stab ht d _ _ a fun x hx => hl x (List.mem_append_left _ hx)) (ImA.stab ht ds _ _ b fun x hx => hl x (List.mem_append_right _ hx)) rfl
theorem hasDict_all {d : PyData} {ds : List PyData} (h : PyData.hasDictAll (d :: ds) = false) : d.hasDict = false ∧ PyData.hasDictAll ds = false := by
  have h : (PyData.hasDict d || PyData.hasDictAll ds) = false := h
  exact Bool.or_eq_false_iff.mp h
mutual
theorem Im.dpD : ∀ (d : PyData) (v : V) (fp : List Addr), Im K H v d fp → d.hasDict = false → Dp K H v d
  | .none, _, _, h, _ => by cases h; exact .non
  | .bool b, _, _, h, _ => by cases h; exact .bl b
  | .int b, _, _, h, _ => by cases h; exact .int b
  | .str b, _, _, h, _ => by cases h; exact .str b
  | .list ds, _, _, h, z => by
    cases h with
    | lst e a q => exact .lst (.inl (.inl e)) (ImA.dpD ds _ _ a z)
  | .tuple ds, _, _, h, z => by
    cases h with
    | tup e a => exact .tup e.q (ImA.dpD ds _ _ a z)
  | .dict kvs, _, _, h, z => by cases z
theorem ImA.dpD : ∀ (ds : List PyData) (vs : List V) (fp : List Addr), ImA K H vs ds fp → PyData.hasDictAll ds = false → DpAll K H vs ds
  | [], _, _, h, _ => by cases h; exact .nil
  | d :: ds, _, _, h, z => by
    cases h with
    | cons a b q => exact .cons (Im.dpD d _ _ a (hasDict_all z).1) (ImA.dpD ds _ _ b (hasDict_all z).2)
end
/-- each list, dict of it stands -/
theorem Im.mtb (d : PyData) (v : V) (fp : List Addr) (h : Im K H v d fp) : ∀ b ∈ fp, ∃ o, H b = some o ∧ Mtb o := by
  refine Im.rec (motive_1 := fun v d fp _ => ∀ b ∈ fp, ∃ o, H b = some o ∧ Mtb o) (motive_2 := fun vs ds fp _ => ∀ b ∈ fp, ∃ o, H b = some o ∧ Mtb o) ?_ ?_ ?_ ?_ ?_ ?_ ?_ ?_ ?_ ?_ ?_ ?_ h
  · exact fun b hb => absurd hb List.not_mem_nil
  · exact fun _ b hb => absurd hb List.not_mem_nil
  · exact fun _ b hb => absurd hb List.not_mem_nil
  · exact fun _ b hb => absurd hb List.not_mem_nil
  · rintro a xs ds fp fq e _ q ih b hb
    subst q
    rcases List.mem_cons.mp hb with rfl | hb
    · exact ⟨_, e, trivial⟩
    · exact ih b hb
  · exact fun e _ ih => ih
  · rintro a kvs ps ds fp fq e e1 e2 _ q ih b hb
    subst q
    rcases List.mem_cons.mp hb with rfl | hb
    · exact ⟨_, e, trivial⟩
    · exact ih b hb
  · rintro a kvs ps ds fp fq e e1 e2 _ q ih b hb
    subst q
    rcases List.mem_cons.mp hb with rfl | hb
    · exact ⟨_, e, trivial⟩
    · exact ih b hb
  · rintro a dx cn mk fs ps ds fp fq em e e1 e2 _ q ih b hb
    subst q
    rcases List.mem_cons.mp hb with rfl | hb
    · exact ⟨_, e, trivial⟩
    · exact ih b hb
  · exact fun _ ih => ih
  · exact fun b hb => absurd hb List.not_mem_nil
  · rintro v vs d ds fp fq fr _ _ q ih1 ih2 b hb
    subst q
    rcases List.mem_append.mp hb with hb | hb
    · exact ih1 b hb
    · exact ih2 b hb
theorem Mtb.tbl {o : HO} (h : Mtb o) : ∀ ps, o ≠ .tbl ps := fun ps e => by subst e; exact h
theorem Mtb.tup {o : HO} (h : Mtb o) : ∀ ps, o ≠ .tup ps := fun ps e => by subst e; exact h
theorem ImA.len : ∀ {ds : List PyData} {vs : List V} {fp : List Addr}, ImA K H vs ds fp → vs.length = ds.length
  | [], _, _, h => by cases h; rfl
  | d :: ds, _, _, h => by
    cases h with
    | cons a b q => rw [List.length_cons, List.length_cons, ImA.len b]
theorem ImA.app : ∀ {ds es : List PyData} {vs ws : List V} {fp fq : List Addr}, ImA K H vs ds fp → ImA K H ws es fq → ImA K H (vs ++ ws) (ds ++ es) (fp ++ fq)
  | [], _, _, _, _, _, h, g => by cases h; exact g
  | d :: ds, _, _, _, _, _, h, g => by
    cases h with
    | cons a b q =>
      subst q
      exact .cons a (ImA.app b g) (List.append_assoc _ _ _)
theorem ImA.get : ∀ {ds : List PyData} {vs : List V} {fp : List Addr} {i : Nat} {d : PyData}, ImA K H vs ds fp → ds[i]? = some d → ∃ v fq, vs[i]? = some v ∧ Im K H v d fq ∧ ∀ b ∈ fq, b ∈ fp
  | [], _, _, _, _, h, e => by cases e
  | d :: ds, _, _, 0, _, h, e => by
    cases h with
    | cons a b q =>
      subst q
      obtain rfl : d = _ := Option.some.inj e
      exact ⟨_, _, rfl, a, fun b hb => List.mem_append_left _ hb⟩
  | d :: ds, _, _, i + 1, _, h, e => by
    cases h with
    | cons a b q =>
      subst q
      obtain ⟨v, fq, h1, h2, h3⟩ := ImA.get b e
      exact ⟨v, fq, h1, h2, fun b hb => List.mem_append_right _ (h3 b hb)⟩
end
/-! ### kinds of data -/
class Enc (α : Type) where
  en : α → PyData
abbrev enc {α : Type} [Enc α] (a : α) : PyData := Enc.en a
class Pu (α : Type) [Enc α] : Prop where
  pu : ∀ {K : PySem.W.Frag} {H : Hp} {v : V} {a : α} {fp : List Addr}, Im K H v (enc a) fp → fp = []
instance : Enc Nat := ⟨fun n => .int (n : Int)⟩
instance : Enc Int := ⟨fun n => .int n⟩
instance : Enc Bool := ⟨fun n => .bool n⟩
instance : Enc Unit := ⟨fun _ => .none⟩
instance : Enc Str := ⟨fun x => .str x⟩
instance {α : Type} [Enc α] : Enc (Option α) := ⟨fun x => match x with | none => .none | some a => enc a⟩
instance {α β : Type} [Enc α] [Enc β] : Enc (α × β) := ⟨fun x => .tuple [enc x.1, enc x.2]⟩
structure T3 (α β γ : Type) where
  a : α
  b : β
  c : γ
structure T4 (α β γ δ : Type) where
  a : α
  b : β
  c : γ
  d : δ
instance {α β γ : Type} [Enc α] [Enc β] [Enc γ] : Enc (T3 α β γ) := ⟨fun x => .tuple [enc x.a, enc x.b, enc x.c]⟩
instance {α β γ δ : Type} [Enc α] [Enc β] [Enc γ] [Enc δ] : Enc (T4 α β γ δ) := ⟨fun x => .tuple [enc x.a, enc x.b, enc x.c, enc x.d]⟩
/-- a tuple of equals in kind -/
instance {α : Type} [Enc α] : Enc (List α) := ⟨fun x => .tuple (x.map enc)⟩
/-- a list -/
structure Lst (α : Type) where
  l : List α
instance {α : Type} [Enc α] : Enc (Lst α) := ⟨fun x => .list (x.l.map enc)⟩
instance : Pu Nat := ⟨fun h => by cases h; rfl⟩
instance : Pu Int := ⟨fun h => by cases h; rfl⟩
instance : Pu Bool := ⟨fun h => by cases h; rfl⟩
instance : Pu Unit := ⟨fun h => by cases h; rfl⟩
instance : Pu Str := ⟨fun h => by cases h; rfl⟩
instance {α : Type} [Enc α] [Pu α] : Pu (Option α) := ⟨fun {K H v a fp} h => by
  cases a with
  | none => cases h; rfl
  | some a => exact Pu.pu (a := a) h⟩
theorem ima1 {K : PySem.W.Frag} {H : Hp} {vs : List V} {d : PyData} {fp : List Addr} (h : ImA K H vs [d] fp) : ∃ v, vs = [v] ∧ Im K H v d fp := by
  cases h with
  | cons a b q =>
    cases b
    subst q
    rw [List.append_nil]
    exact ⟨_, rfl, a⟩
theorem ima2 {K : PySem.W.Frag} {H : Hp} {vs : List V} {d e : PyData} {fp : List Addr} (h : ImA K H vs [d, e] fp) : ∃ v w f1 f2, vs = [v, w] ∧ Im K H v d f1 ∧ Im K H w e f2 ∧ fp = f1 ++ f2 := by
  cases h with
  | cons a b q =>
    obtain ⟨w, rfl, hw⟩ := ima1 b
    exact ⟨_, w, _, _, rfl, a, hw, q⟩
theorem ima3 {K : PySem.W.Frag} {H : Hp} {vs : List V} {d e f : PyData} {fp : List Addr} (h : ImA K H vs [d, e, f] fp) : ∃ v w u f1 f2 f3, vs = [v, w, u] ∧ Im K H v d f1 ∧ Im K H w e f2 ∧ Im K H u f f3 ∧ fp = f1 ++ (f2 ++ f3) := by
  cases h with
  | cons a b q =>
    obtain ⟨w, u, f2, f3, rfl, hw, hu, e⟩ := ima2 b
    exact ⟨_, w, u, _, _, _, rfl, a, hw, hu, by rw [q, e]⟩
theorem ima4 {K : PySem.W.Frag} {H : Hp} {vs : List V} {d e f g : PyData} {fp : List Addr} (h : ImA K H vs [d, e, f, g] fp) : ∃ v w u x f1 f2 f3 f4, vs = [v, w, u, x] ∧ Im K H v d f1 ∧ Im K H w e f2 ∧ Im K H u f f3 ∧ Im K H x g f4 ∧ fp = f1 ++ (f2 ++ (f3 ++ f4)) := by
  cases h with
  | cons a b q =>
    obtain ⟨w, u, x, f2, f3, f4, rfl, hw, hu, hx, e⟩ := ima3 b
    exact ⟨_, w, u, x, _, _, _, _, rfl, a, hw, hu, hx, by rw [q, e]⟩
instance {α β : Type} [Enc α] [Enc β] [Pu α] [Pu β] : Pu (α × β) := ⟨fun {K H v a fp} h => by
  cases h with
  | tup e b =>
    obtain ⟨v, w, f1, f2, rfl, h1, h2, rfl⟩ := ima2 b
    rw [Pu.pu h1, Pu.pu h2]; rfl⟩
instance {α β γ : Type} [Enc α] [Enc β] [Enc γ] [Pu α] [Pu β] [Pu γ] : Pu (T3 α β γ) := ⟨fun {K H v a fp} h => by
  cases h with
  | tup e b =>
    obtain ⟨v, w, u, f1, f2, f3, rfl, h1, h2, h3, rfl⟩ := ima3 b
    rw [Pu.pu h1, Pu.pu h2, Pu.pu h3]; rfl⟩
instance {α β γ δ : Type} [Enc α] [Enc β] [Enc γ] [Enc δ] [Pu α] [Pu β] [Pu γ] [Pu δ] : Pu (T4 α β γ δ) := ⟨fun {K H v a fp} h => by
  cases h with
  | tup e b =>
    obtain ⟨v, w, u, x, f1, f2, f3, f4, rfl, h1, h2, h3, h4, rfl⟩ := ima4 b
    rw [Pu.pu h1, Pu.pu h2, Pu.pu h3, Pu.pu h4]; rfl⟩
theorem ima_pu {α : Type} [Enc α] [Pu α] {K : PySem.W.Frag} {H : Hp} : ∀ {xs : List α} {vs : List V} {fp : List Addr}, ImA K H vs (xs.map enc) fp → fp = []
  | [], _, _, h => by cases h; rfl
  | x :: xs, _, _, h => by
    cases h with
    | cons a b q => rw [q, Pu.pu a, ima_pu b]; rfl
instance {α : Type} [Enc α] [Pu α] : Pu (List α) := ⟨fun {K H v a fp} h => by
  cases h with
  | tup e b => exact ima_pu b⟩
/-! ## heaps -/
structure Fr (K : PySem.W.Frag) (po : Option Addr) (H H' : Hp) : Prop where
  keep : ∀ b o, po ≠ some b → H b = some o → (∀ ps, o ≠ .tbl ps) → H' b = some o
  tup : ∀ b xs, TupR H b xs → TupR H' b xs
section
variable {K : PySem.W.Frag} {po : Option Addr} {H H1 H' : Hp} {T : List (Addr × Str)} {n n1 n' : Nat}
theorem Fr.refl : Fr K po H H := ⟨fun _ _ _ h _ => h, fun _ _ h => h⟩
theorem Fr.trans (x : Fr K po H H1) (y : Fr K po H1 H') : Fr K po H H' := ⟨fun b o p h t => y.keep b o p (x.keep b o p h t) t, fun b xs h => y.tup b xs (x.tup b xs h)⟩
theorem Fr.same (s : Same H H') : Fr K po H H' := ⟨fun b o _ h _ => s b o h, fun _ _ h => s _ _ h⟩
theorem Fr.ext (s : ExtN H H') : Fr K po H H' := ⟨fun b o _ h t => s b o h t, fun _ _ h => s _ _ h fun ps z => nomatch z⟩
theorem Fr.weak (x : Fr K none H H') : Fr K po H H' := ⟨fun b o _ h t => x.keep b o (by simp) h t, x.tup⟩
theorem Fr.keeps {a : Addr} {l : List V} (ha : H a = some (.lst l)) (k : Keeps a H H') : Fr K (some a) H H' := ⟨fun b o p h _ => k b o (fun e => p (by rw [e])) h, fun _ _ h => k _ _ (fun e => by unfold TupR at h; rw [e, ha] at h; cases h) h⟩
structure Af (K : PySem.W.Frag) (T : List (Addr × Str)) (po : Option Addr) (H : Hp) (n : Nat) (H' : Hp) (n' : Nat) : Prop where
  fr : Fr K po H H'
  tabs : Tabs T H → Tabs T H'
  pot : ∀ a, po = some a → Pot H a n → Pot H' a n'
theorem Af.refl : Af K T po H n H n := ⟨Fr.refl, id, fun _ _ h => h⟩
theorem Af.trans (x : Af K T po H n H1 n1) (y : Af K T po H1 n1 H' n') : Af K T po H n H' n' := ⟨x.fr.trans y.fr, fun t => y.tabs (x.tabs t), fun a e p => y.pot a e (x.pot a e p)⟩
theorem Af.same (s : Same H H') : Af K T po H n H' n := ⟨Fr.same s, fun t => t.ext s, fun a e p => p.same s⟩
theorem Af.new {p : Addr} {o : HO} (np : H p = none) : Af K T po H n (upd H p o) n := Af.same (same_new (Same.refl H) np)
def Fsh (H : Hp) (b : Addr) : Prop := ∀ o, H b = some o → ∃ ps, o = .tbl ps
def Fp (H : Hp) (po : Option Addr) (fr : Bool) (fp : List Addr) : Prop := (∀ b ∈ fp, po ≠ some b) ∧ (fr = true → fp.Nodup ∧ ∀ b ∈ fp, Fsh H b)
theorem Fp.nil {fr : Bool} : Fp H po fr [] := ⟨fun b h => absurd h List.not_mem_nil, fun _ => ⟨List.nodup_nil, fun b h => absurd h List.not_mem_nil⟩⟩
theorem Fsh.back {b : Addr} (f : Fr K po H H') (hb : po ≠ some b) (h : Fsh H' b) : Fsh H b := fun o e => by
  by_cases z : ∃ ps, o = .tbl ps
  · exact z
  · exact h o (f.keep b o hb e fun ps q => z ⟨ps, q⟩)
theorem Fp.back {fr : Bool} {fp : List Addr} (f : Fr K po H H') (h : Fp H' po fr fp) : Fp H po fr fp := ⟨h.1, fun e => ⟨(h.2 e).1, fun b hb => Fsh.back f (h.1 b hb) ((h.2 e).2 b hb)⟩⟩
theorem Fp.weak {fr : Bool} {fp : List Addr} (h : Fp H po fr fp) : Fp H po false fp := ⟨h.1, fun e => nomatch e⟩
theorem Im.af {v : V} {d : PyData} {fp : List Addr} (h : Im K H v d fp) (hp : ∀ b ∈ fp, po ≠ some b) (f : Fr K po H H') : Im K H' v d fp := Im.stab f.tup d v fp h fun b hb o e m => f.keep b _ (hp b hb) e m.tbl
theorem ImA.af {vs : List V} {ds : List PyData} {fp : List Addr} (h : ImA K H vs ds fp) (hp : ∀ b ∈ fp, po ≠ some b) (f : Fr K po H H') : ImA K H' vs ds fp := ImA.stab f.tup ds vs fp h fun b hb o e m => f.keep b _ (hp b hb) e m.tbl
theorem Im.same {v : V} {d : PyData} {fp : List Addr} (h : Im K H v d fp) (s : Same H H') : Im K H' v d fp := h.af (po := none) (fun b _ => by simp) (Fr.same s)
theorem ImA.same {vs : List V} {ds : List PyData} {fp : List Addr} (h : ImA K H vs ds fp) (s : Same H H') : ImA K H' vs ds fp := h.af (po := none) (fun b _ => by simp) (Fr.same s)
end
/-! ## what the slots hold -/
inductive Sl where
  | any
  | pot
  | bor (d : PyData)
  | own (d : PyData)
  | scr (ns : List Int)
  | lkd (d : PyData)
  | borA (v : V) (fp : List Addr) (d : PyData)
/-- a list that stands from the start on, whatever is done -/
def ScrOk (K : PySem.W.Frag) (Bs : Addr → HO → Prop) (a : Addr) (vs : List V) : Prop := (∃ o, Bs a o ∧ (o = .lst vs ∨ ∃ z, o = .frz z (.lst vs))) ∨
  ∃ (o : Obj) (its : Array Value) (n : Nat), K.lookup a = some o ∧ o.cls = .type "list" ∧ o.dict = none ∧ o.data = .seq its n ∧ its.size ≤ sizeLine ∧ Vals vs its.toList
/-- what a dict holds, flat values only -/
def DcOk (K : PySem.W.Frag) (H : Hp) (u : HO) (d : PyData) : Prop := (∃ kvs ps, u = .dK kvs ∧ d = .dict ((.none, .none) :: ps) ∧ ps.map Prod.fst = kvs.map (fun kv => kD kv.1) ∧ ImA K H (kvs.map Prod.snd) (ps.map Prod.snd) []) ∨
  ∃ kvs ps, u = .dT kvs ∧ d = .dict ps ∧ ps.map Prod.fst = kvs.map (fun kv => .tuple (kv.1.map kD)) ∧ ImA K H (kvs.map Prod.snd) (ps.map Prod.snd) []
theorem DcOk.af {K : PySem.W.Frag} {po : Option Addr} {H H' : Hp} {u : HO} {d : PyData} (h : DcOk K H u d) (f : Fr K po H H') : DcOk K H' u d := by
  rcases h with ⟨kvs, ps, h1, h2, h3, h4⟩ | ⟨kvs, ps, h1, h2, h3, h4⟩
  · exact .inl ⟨kvs, ps, h1, h2, h3, h4.af (po := po) (fun b hb => absurd hb List.not_mem_nil) f⟩
  · exact .inr ⟨kvs, ps, h1, h2, h3, h4.af (po := po) (fun b hb => absurd hb List.not_mem_nil) f⟩
def SlOk (K : PySem.W.Frag) (Bs : Addr → HO → Prop) (po : Option Addr) (H : Hp) (ov : Option (Option V)) (s : Sl) (fp : List Addr) : Prop := match s with
  | .any => True
  | .pot => ∃ a, po = some a ∧ ov = some (some (.ref a))
  | .bor d => ∃ v, ov = some (some v) ∧ Im K H v d fp ∧ ∀ b ∈ fp, po ≠ some b ∧ ∃ o, Bs b o
  | .own d => ∃ v, ov = some (some v) ∧ Im K H v d fp ∧ fp.Nodup ∧ ∀ b ∈ fp, po ≠ some b ∧ ∀ o, ¬ Bs b o
  | .scr ns => ∃ a, ov = some (some (.ref a)) ∧ ScrOk K Bs a (ns.map V.int)
  | .lkd d => ∃ a od u, ov = some (some (.ref a)) ∧ po ≠ some a ∧ H a = some (.frz od u) ∧ DcOk K H u d
  | .borA v fq d => ov = some (some v) ∧ Im K H v d fq ∧ ∀ b ∈ fq, po ≠ some b ∧ ∃ o, Bs b o
structure ST (K : PySem.W.Frag) (T : List (Addr × Str)) (Bs : Addr → HO → Prop) (po : Option Addr) (ρ : List Sl) (φ : Nat → List Addr) (σ : L2.St) (H : Hp) (n : Nat) : Prop where
  tabs : Tabs T H
  base : ∀ b o, Bs b o → H b = some o ∧ (∀ ps, o ≠ .tbl ps) ∧ po ≠ some b
  pot : ∀ a, po = some a → Pot H a n
  len : σ.length = ρ.length
  sl : ∀ i s, ρ[i]? = some s → SlOk K Bs po H σ[i]? s (φ i)
  dis : ∀ i j d e, i ≠ j → ρ[i]? = some (.own d) → ρ[j]? = some (.own e) → ∀ b ∈ φ i, b ∉ φ j
def STe (K : PySem.W.Frag) (T : List (Addr × Str)) (Bs : Addr → HO → Prop) (po : Option Addr) (ρ : List Sl) (σ : L2.St) (H : Hp) (n : Nat) : Prop := ∃ φ, ST K T Bs po ρ φ σ H n
section
variable {K : PySem.W.Frag} {T : List (Addr × Str)} {Bs : Addr → HO → Prop} {po : Option Addr} {ρ : List Sl} {φ : Nat → List Addr} {σ : L2.St} {H H' : Hp} {n n' : Nat}
theorem SlOk.af {ov : Option (Option V)} {s : Sl} {fp : List Addr} (h : SlOk K Bs po H ov s fp) (f : Fr K po H H') : SlOk K Bs po H' ov s fp := by
  cases s with
  | any => exact h
  | pot => exact h
  | scr ns => exact h
  | lkd d => obtain ⟨a, od, u, h1, h2, h3, h4⟩ := h; exact ⟨a, od, u, h1, h2, f.keep a _ h2 h3 (fun ps z => nomatch z), h4.af f⟩
  | borA v fq d => exact ⟨h.1, h.2.1.af (fun b hb => (h.2.2 b hb).1) f, h.2.2⟩
  | bor d => obtain ⟨v, h1, h2, h3⟩ := h; exact ⟨v, h1, h2.af (fun b hb => (h3 b hb).1) f, h3⟩
  | own d => obtain ⟨v, h1, h2, h3, h4⟩ := h; exact ⟨v, h1, h2.af (fun b hb => (h4 b hb).1) f, h3, h4⟩
theorem ST.af (h : ST K T Bs po ρ φ σ H n) (a : Af K T po H n H' n') : ST K T Bs po ρ φ σ H' n' where
  tabs := a.tabs h.tabs
  base := fun b o z => by
    obtain ⟨h1, h2, h3⟩ := h.base b o z
    exact ⟨a.fr.keep b o h3 h1 h2, h2, h3⟩
  pot := fun p e => a.pot p e (h.pot p e)
  len := h.len
  sl := fun i s e => (h.sl i s e).af a.fr
  dis := h.dis
theorem pot_lst {a : Addr} (h : Pot H a n) : ∃ l, H a = some (.lst l) := let ⟨_, _, _, e, _⟩ := h; ⟨_, e⟩
/-- something new is not the pot, nor in what slots hold -/
theorem ST.fresh_pot (h : ST K T Bs po ρ φ σ H n) {b : Addr} (f : Fsh H b) : po ≠ some b := fun e => by
  obtain ⟨l, hl⟩ := pot_lst (h.pot b e)
  obtain ⟨ps, z⟩ := f _ hl
  cases z
theorem ST.fresh_bs (h : ST K T Bs po ρ φ σ H n) {b : Addr} (f : Fsh H b) : ∀ o, ¬ Bs b o := fun o z => by
  obtain ⟨h1, h2, h3⟩ := h.base b o z
  obtain ⟨ps, q⟩ := f _ h1
  exact h2 ps q
theorem ST.fresh_own (h : ST K T Bs po ρ φ σ H n) {b : Addr} (f : Fsh H b) {i : Nat} {d : PyData} (e : ρ[i]? = some (.own d)) : b ∉ φ i := fun z => by
  obtain ⟨v, h1, h2, h3, h4⟩ := h.sl i _ e
  obtain ⟨l, hl, hm⟩ := Im.mtb _ _ _ h2 b z
  obtain ⟨ps, q⟩ := f _ hl
  exact hm.tbl ps q
/-- a slot is set to something new -/
theorem ST.set (h : ST K T Bs po ρ φ σ H n) (a : Af K T po H n H' n') {i : Nat} (hi : i < ρ.length) {v : V} {d : PyData} {fp : List Addr} (hv : Im K H' v d fp) (hf : Fp H po true fp) :
    ST K T Bs po (ρ.set i (.own d)) (fun j => if j = i then fp else φ j) (σ.set i (some v)) H' n' := by
  have h' := h.af a
  obtain ⟨hp, hn⟩ := hf
  obtain ⟨hnd, hfs⟩ := hn rfl
  refine ⟨h'.tabs, h'.base, h'.pot, by rw [List.length_set, List.length_set, h.len], fun j s e => ?_, fun j k d1 e1 hjk ej ek => ?_⟩
  · rw [List.getElem?_set] at e ⊢
    by_cases hij : i = j
    · subst hij
      rw [if_pos rfl, if_pos hi] at e
      obtain rfl : Sl.own d = s := Option.some.inj e
      rw [if_pos rfl, if_pos (by rw [h.len]; exact hi)]
      show SlOk K Bs po H' _ _ (if i = i then fp else φ i)
      rw [if_pos rfl]
      exact ⟨v, rfl, hv, hnd, fun b hb => ⟨hp b hb, h.fresh_bs (hfs b hb)⟩⟩
    · rw [if_neg hij] at e ⊢
      show SlOk K Bs po H' _ _ (if j = i then fp else φ j)
      rw [if_neg (Ne.symm hij)]
      exact h'.sl j s e
  · show ∀ b ∈ (if j = i then fp else φ j), b ∉ (if k = i then fp else φ k)
    rw [List.getElem?_set] at ej ek
    by_cases hji : i = j
    · subst hji
      rw [if_pos rfl]
      rw [if_neg hjk] at ek
      rw [if_neg (Ne.symm hjk)]
      exact fun b hb => h.fresh_own (hfs b hb) ek
    · rw [if_neg hji] at ej
      rw [if_neg (Ne.symm hji)]
      by_cases hki : i = k
      · subst hki
        rw [if_pos rfl]
        exact fun b hb z => h.fresh_own (hfs b z) ej hb
      · rw [if_neg hki] at ek
        rw [if_neg (Ne.symm hki)]
        exact h.dis j k d1 e1 hjk ej ek
/-- less is known -/
inductive SlLe : Sl → Sl → Prop
  | any (s : Sl) : SlLe .any s
  | eq (s : Sl) : SlLe s s
def RhoLe : List Sl → List Sl → Prop
  | [], [] => True
  | s :: ss, t :: ts => SlLe s t ∧ RhoLe ss ts
  | _, _ => False
theorem RhoLe.refl : ∀ ρ : List Sl, RhoLe ρ ρ
  | [] => trivial
  | s :: ss => ⟨.eq s, RhoLe.refl ss⟩
theorem RhoLe.len : ∀ {ρ1 ρ2 : List Sl}, RhoLe ρ1 ρ2 → ρ1.length = ρ2.length
  | [], [], _ => rfl
  | s :: ss, t :: ts, h => by rw [List.length_cons, List.length_cons, RhoLe.len h.2]
theorem RhoLe.get : ∀ {ρ1 ρ2 : List Sl}, RhoLe ρ1 ρ2 → ∀ {i : Nat} {s : Sl}, ρ1[i]? = some s → ∃ t, ρ2[i]? = some t ∧ SlLe s t
  | [], [], _, _, _, e => by cases e
  | s :: ss, t :: ts, h, 0, _, e => by
    obtain rfl : s = _ := Option.some.inj e
    exact ⟨t, rfl, h.1⟩
  | s :: ss, t :: ts, h, i + 1, _, e => RhoLe.get h.2 (i := i) e
theorem ST.le {ρ1 : List Sl} (h : ST K T Bs po ρ φ σ H n) (l : RhoLe ρ1 ρ) : ST K T Bs po ρ1 φ σ H n where
  tabs := h.tabs
  base := h.base
  pot := h.pot
  len := h.len.trans l.len.symm
  sl := fun i s e => by
    obtain ⟨t, h1, h2⟩ := l.get e
    cases h2 with
    | any => trivial
    | eq => exact h.sl i _ h1
  dis := fun i j d e hij ei ej => by
    obtain ⟨t, h1, h2⟩ := l.get ei
    obtain ⟨u, h3, h4⟩ := l.get ej
    cases h2
    cases h4
    exact h.dis i j d e hij h1 h3
/-- an own list is only read from now on -/
theorem ST.freeze (h : ST K T Bs po ρ φ σ H n) {i : Nat} {d : PyData} (hi : ρ[i]? = some (.own d)) :
    ST K T (fun b o => Bs b o ∨ (b ∈ φ i ∧ H b = some o)) po (ρ.set i (.bor d)) φ σ H n := by
  obtain ⟨v, h1, h2, h3, h4⟩ := h.sl i _ hi
  have hil := (List.getElem?_eq_some_iff.mp hi).1
  refine ⟨h.tabs, fun b o z => ?_, h.pot, by rw [List.length_set]; exact h.len, fun j s e => ?_, fun j k d1 e1 hjk ej ek => ?_⟩
  · rcases z with z | ⟨z, e⟩
    · exact h.base b o z
    · obtain ⟨l, hl, hm⟩ := Im.mtb _ _ _ h2 b z
      rw [e] at hl
      cases hl
      exact ⟨e, hm.tbl, (h4 b z).1⟩
  · rw [List.getElem?_set] at e
    by_cases hij : i = j
    · subst hij
      rw [if_pos rfl, if_pos hil] at e
      obtain rfl : Sl.bor d = s := Option.some.inj e
      refine ⟨v, h1, h2, fun b hb => ⟨(h4 b hb).1, ?_⟩⟩
      obtain ⟨l, hl, _⟩ := Im.mtb _ _ _ h2 b hb
      exact ⟨_, .inr ⟨hb, hl⟩⟩
    · rw [if_neg hij] at e
      have z := h.sl j s e
      cases s with
      | any => trivial
      | pot => exact z
      | scr ns => obtain ⟨a, z1, z2⟩ := z; exact ⟨a, z1, z2.elim (fun ⟨o, q1, q2⟩ => .inl ⟨o, .inl q1, q2⟩) .inr⟩
      | lkd d' => exact z
      | borA v' fq d' => exact ⟨z.1, z.2.1, fun b hb => ⟨(z.2.2 b hb).1, let ⟨o, q⟩ := (z.2.2 b hb).2; ⟨o, .inl q⟩⟩⟩
      | bor d' => obtain ⟨v', z1, z2, z3⟩ := z; exact ⟨v', z1, z2, fun b hb => ⟨(z3 b hb).1, let ⟨o, q⟩ := (z3 b hb).2; ⟨o, .inl q⟩⟩⟩
      | own d' =>
        obtain ⟨v', z1, z2, z3, z4⟩ := z
        refine ⟨v', z1, z2, z3, fun b hb => ⟨(z4 b hb).1, fun o q => ?_⟩⟩
        rcases q with q | ⟨q, _⟩
        · exact (z4 b hb).2 o q
        · exact h.dis i j d d' hij hi e b q hb
  · rw [List.getElem?_set] at ej ek
    by_cases hij : i = j
    · rw [if_pos hij] at ej
      split at ej
      · cases ej
      · cases ej
    · rw [if_neg hij] at ej
      by_cases hik : i = k
      · rw [if_pos hik] at ek
        split at ek
        · cases ek
        · cases ek
      · rw [if_neg hik] at ek
        exact h.dis j k d1 e1 hjk ej ek
end
end Bf
namespace Bf
open PySem PySem.Spec PyProof.Rows L2 LamX NdefX
/-! ## what must hold for an answer, the count of draws with it -/
abbrev M (α : Type) := Nat → (α → Nat → Prop) → Prop
def retW {α : Type} (a : α) : M α := fun n P => P a n
def bindW {α β : Type} (m : M α) (k : α → M β) : M β := fun n P => m n fun a n' => k a n' P
def reqW {α : Type} (c : Prop) (m : M α) : M α := fun n P => c ∧ m n P
def pureW {α : Type} (m : M α) : M α := fun n P => m 0 fun a _ => P a n
def b2W {α β γ : Type} (ma : M α) (mb : M β) (f : α → β → M γ) : M γ := fun n P => ma n fun a n1 => mb n1 fun b n2 => f a b n2 P
section
variable {K : PySem.W.Frag} {T : List (Addr × Str)} {ρ : List Sl}
variable {α β γ : Type} [Enc α] [Enc β] [Enc γ]
def RE (K : PySem.W.Frag) (T : List (Addr × Str)) (t : TE) (ρ : List Sl) (fr : Bool) {α : Type} [Enc α] (m : M α) : Prop := ∀ (Bs : Addr → HO → Prop) (po : Option Addr) (φ : Nat → List Addr) (σ : L2.St) (H : Hp) (n : Nat), ST K T Bs po ρ φ σ H n → ∀ P : α → Nat → Prop, m n P →
  ∀ Q : VK, (∀ (a : α) (n' : Nat) (v : V) (H' : Hp) (fp : List Addr), P a n' → Af K T po H n H' n' → Im K H' v (enc a) fp → Fp H po fr fp → Q v H') → t σ H Q
def RT (K : PySem.W.Frag) (T : List (Addr × Str)) (t : TT) (ρ : List Sl) (m : M Bool) : Prop := ∀ (Bs : Addr → HO → Prop) (po : Option Addr) (φ : Nat → List Addr) (σ : L2.St) (H : Hp) (n : Nat), ST K T Bs po ρ φ σ H n → ∀ P : Bool → Nat → Prop, m n P →
  ∀ Q : Bool → Hp → Prop, (∀ (a : Bool) (n' : Nat) (H' : Hp), P a n' → Af K T po H n H' n' → Q a H') → t σ H Q
theorem RE.weak {t : TE} {fr : Bool} {m : M α} (h : RE K T t ρ fr m) : RE K T t ρ false m := fun Bs po φ σ H n st P p Q q => h Bs po φ σ H n st P p Q fun a n' v H' fp pa af im f => q a n' v H' fp pa af im f.weak
theorem RE.pu [Pu α] {t : TE} {fr : Bool} {m : M α} (h : RE K T t ρ fr m) : RE K T t ρ true m := fun Bs po φ σ H n st P p Q q => h Bs po φ σ H n st P p Q fun a n' v H' fp pa af im f => q a n' v H' fp pa af im (by rw [Pu.pu im]; exact Fp.nil)
/-! ### names, written values -/
theorem re_own {i : Nat} {a : α} (hi : ρ[i]? = some (.own (enc a))) : RE K T (tVar i) ρ false (retW a) := fun Bs po φ σ H n st P p Q q => by
  obtain ⟨v, h1, h2, h3, h4⟩ := st.sl i _ hi
  exact ⟨v, h1, q a n v H _ p Af.refl h2 ⟨fun b hb => (h4 b hb).1, fun e => nomatch e⟩⟩
theorem re_bor {i : Nat} {a : α} (hi : ρ[i]? = some (.bor (enc a))) : RE K T (tVar i) ρ false (retW a) := fun Bs po φ σ H n st P p Q q => by
  obtain ⟨v, h1, h2, h3⟩ := st.sl i _ hi
  exact ⟨v, h1, q a n v H _ p Af.refl h2 ⟨fun b hb => (h3 b hb).1, fun e => nomatch e⟩⟩
theorem re_v [Pu α] {i : Nat} {a : α} (hi : ρ[i]? = some (.own (enc a))) : RE K T (tVar i) ρ true (retW a) := (re_own hi).pu
theorem re_nat (k : Nat) : RE K T (tC (.int (k : Int))) ρ true (retW k) := fun Bs po φ σ H n st P p Q q => q k n _ H [] p Af.refl (.int _) Fp.nil
theorem re_bool (k : Bool) : RE K T (tC (.bl k)) ρ true (retW k) := fun Bs po φ σ H n st P p Q q => q k n _ H [] p Af.refl (.bl _) Fp.nil
theorem re_none : RE K T (tC .non) ρ true (retW (none : Option α)) := fun Bs po φ σ H n st P p Q q => q none n _ H [] p Af.refl .non Fp.nil
theorem re_str (x : Str) : RE K T (tC (.str x)) ρ true (retW x) := fun Bs po φ σ H n st P p Q q => q x n _ H [] p Af.refl (.str _) Fp.nil
/-- the same value as another kind of data -/
def mapW (f : α → β) (m : M α) : M β := bindW m fun a => retW (f a)
theorem re_as {t : TE} {fr : Bool} {m : M α} (f : α → β) (hf : ∀ a, enc (f a) = enc a) (h : RE K T t ρ fr m) : RE K T t ρ fr (mapW f m) := fun Bs po φ σ H n st P p Q q => h Bs po φ σ H n st _ p Q fun a n' v H' fp pa af im f' => q (f a) n' v H' fp pa af (by rw [hf]; exact im) f'
theorem re_some {t : TE} {fr : Bool} {m : M α} (h : RE K T t ρ fr m) : RE K T t ρ fr (mapW some m) := re_as some (fun _ => rfl) h
theorem re_ofN {t : TE} {fr : Bool} {m : M Nat} (h : RE K T t ρ fr m) : RE K T t ρ fr (mapW (fun n : Nat => (n : Int)) m) := re_as (fun n : Nat => (n : Int)) (fun _ => rfl) h
/-- of what may be None, where it isn't -/
theorem re_get {t : TE} {fr : Bool} {m : M (Option α)} (h : RE K T t ρ fr m) : RE K T t ρ fr (fun n P => m n fun o n' => ∃ a, o = some a ∧ P a n') := fun Bs po φ σ H n st P p Q q => h Bs po φ σ H n st _ p Q fun o n' v H' fp pa af im f' => by
  obtain ⟨a, rfl, pa⟩ := pa
  exact q a n' v H' fp pa af im f'
/-! ### two parts and what is made of them -/
def OpW (K : PySem.W.Frag) {α β γ : Type} [Enc α] [Enc β] [Enc γ] (r : R2) (f : α → β → M γ) : Prop := ∀ (a : α) (b : β) (H : Hp) (v w : V) (fp fq : List Addr), Im K H v (enc a) fp → Im K H w (enc b) fq → ∀ n (P : γ → Nat → Prop), f a b n P →
  ∀ Q : VK, (∀ (c : γ) (H' : Hp) (v' : V) (fr : List Addr), P c n → Same H H' → Im K H' v' (enc c) fr → (fr.Nodup ∧ ∀ x ∈ fr, H x = none) → Q v' H') → r v w H Q
theorem fp_new {H : Hp} {po : Option Addr} {fp : List Addr} {T : List (Addr × Str)} {Bs : Addr → HO → Prop} {φ : Nat → List Addr} {σ : L2.St} {n : Nat} (st : ST K T Bs po ρ φ σ H n) (h : fp.Nodup ∧ ∀ x ∈ fp, H x = none) : Fp H po true fp :=
  ⟨fun b hb => st.fresh_pot fun o e => (by rw [h.2 b hb] at e; cases e), fun _ => ⟨h.1, fun b hb o e => (by rw [h.2 b hb] at e; cases e)⟩⟩
theorem re_op {ta tb : TE} {ma : M α} {mb : M β} {f : α → β → M γ} {r : R2} {f1 f2 : Bool} (hr : OpW K r f) (ha : RE K T ta ρ f1 ma) (hb : RE K T tb ρ f2 mb) : RE K T (tOp r ta tb) ρ true (b2W ma mb f) := fun Bs po φ σ H n st P p Q q =>
  ha Bs po φ σ H n st _ p _ fun a n1 v H1 fp pa a1 i1 g1 => hb Bs po φ σ H1 n1 (st.af a1) _ pa _ fun b n2 w H2 fq pb a2 i2 g2 =>
    hr a b H2 v w fp fq (i1.af g1.1 a2.fr) i2 n2 _ pb Q fun c H3 v' fr pc s3 i3 g3 => by
      have a12 := a1.trans a2
      exact q c n2 v' H3 fr pc (a12.trans (Af.same s3)) i3 (Fp.back a12.fr (fp_new (st.af a12) g3))
theorem opw_pure {α β γ : Type} [Enc α] [Enc β] [Enc γ] {r : R2} {f : α → β → M γ} (g : ∀ (a : α) (b : β) (H : Hp) (v w : V) (fp fq : List Addr), Im K H v (enc a) fp → Im K H w (enc b) fq → ∀ n (P : γ → Nat → Prop), f a b n P → ∃ c v', P c n ∧ Im K H v' (enc c) [] ∧ ∀ Q : VK, Q v' H → r v w H Q) : OpW K r f :=
  fun a b H v w fp fq i1 i2 n P p Q q => by
    obtain ⟨c, v', h1, h2, h3⟩ := g a b H v w fp fq i1 i2 n P p
    exact h3 Q (q c H v' [] h1 (Same.refl H) h2 ⟨List.nodup_nil, fun x h => absurd h List.not_mem_nil⟩)
/-! numbers from nought on -/
theorem opw_n0 {r : R2} {g : Nat → Nat → Nat} (h : ∀ (a b : Nat) H Q, Q (.int ((g a b : Nat) : Int)) H → r (.int (a : Int)) (.int (b : Int)) H Q) : OpW K r (fun a b : Nat => retW (g a b)) :=
  opw_pure fun a b H v w fp fq i1 i2 n P p => by
    cases i1
    cases i2
    exact ⟨g a b, _, p, .int _, fun Q q => h a b H Q q⟩
theorem opw_nb {r : R2} {g : Nat → Nat → Bool} (h : ∀ (a b : Nat) H Q, Q (.bl (g a b)) H → r (.int (a : Int)) (.int (b : Int)) H Q) : OpW K r (fun a b : Nat => retW (g a b)) :=
  opw_pure fun a b H v w fp fq i1 i2 n P p => by
    cases i1
    cases i2
    exact ⟨g a b, _, p, .bl _, fun Q q => h a b H Q q⟩
theorem ow_addN : OpW K (fun x y H Q => ∃ n m : Nat, x = .int (n : Int) ∧ y = .int (m : Int) ∧ Q (.int ((n + m : Nat) : Int)) H) (fun a b : Nat => retW (a + b)) := opw_n0 fun a b H Q q => ⟨a, b, rfl, rfl, q⟩
/-- numbers compared -/
theorem ow_cmpN {g : Int → Int → Bool} {p : Nat → Nat → Bool} (hp : ∀ a b : Nat, g (a : Int) (b : Int) = p a b) : OpW K (rI0 fun i j => .bl (g i j)) (fun a b : Nat => retW (p a b)) := opw_nb fun a b H Q q => ⟨a, b, rfl, rfl, by show Q (.bl (g (a : Int) (b : Int))) H; rw [hp]; exact q⟩
theorem ow_ltN : OpW K (rI0 fun i j => .bl (decide (i < j))) (fun a b : Nat => retW (decide (a < b))) := ow_cmpN fun a b => by simp
theorem ow_leN : OpW K (rI0 fun i j => .bl (decide (i ≤ j))) (fun a b : Nat => retW (decide (a ≤ b))) := ow_cmpN fun a b => by simp
theorem ow_gtN : OpW K (rI0 fun i j => .bl (decide (j < i))) (fun a b : Nat => retW (decide (b < a))) := ow_cmpN fun a b => by simp
theorem ow_geN : OpW K (rI0 fun i j => .bl (decide (j ≤ i))) (fun a b : Nat => retW (decide (b ≤ a))) := ow_cmpN fun a b => by simp
theorem ow_eqN : OpW K rEq (fun a b : Nat => retW (decide (a = b))) := opw_nb fun a b H Q q => ⟨rfl, by
  have e : decide (V.int (a : Int) = V.int (b : Int)) = decide (a = b) := by simp; omega
  rw [e]; exact q⟩
theorem ow_neN : OpW K rNe (fun a b : Nat => retW (!decide (a = b))) := opw_nb fun a b H Q q => ⟨rfl, by
  have e : decide (V.int (a : Int) = V.int (b : Int)) = decide (a = b) := by simp; omega
  rw [e]; exact q⟩
theorem ow_eqS : OpW K rEq (fun a b : Str => retW (decide (a = b))) := opw_pure fun a b H v w fp fq i1 i2 n P p => by
  cases i1
  cases i2
  exact ⟨_, _, p, .bl _, fun Q q => ⟨rfl, by
    have e : decide (V.str a = V.str b) = decide (a = b) := by simp
    rw [e]; exact q⟩⟩
theorem ow_neS : OpW K rNe (fun a b : Str => retW (!decide (a = b))) := opw_pure fun a b H v w fp fq i1 i2 n P p => by
  cases i1
  cases i2
  exact ⟨_, _, p, .bl _, fun Q q => ⟨rfl, by
    have e : decide (V.str a = V.str b) = decide (a = b) := by simp
    rw [e]; exact q⟩⟩
/-- any data compared -/
def shapeOk (d : PyData) : Prop := SeqAt.shaped d = true ∧ d.hasDict = false
theorem ow_eqD : OpW K (rEqD K) (fun (a : α) (b : β) => reqW (shapeOk (enc a) ∧ shapeOk (enc b)) (retW (PyData.eqv (enc a) (enc b)))) := opw_pure fun a b H v w fp fq i1 i2 n P p =>
  ⟨_, _, p.2, .bl _, fun Q q => ⟨_, _, i1.dpD _ _ _ p.1.1.2, i2.dpD _ _ _ p.1.2.2, p.1.1.1, p.1.2.1, q⟩⟩
theorem ow_neD : OpW K (rNeD K) (fun (a : α) (b : β) => reqW (shapeOk (enc a) ∧ shapeOk (enc b)) (retW (!PyData.eqv (enc a) (enc b)))) := opw_pure fun a b H v w fp fq i1 i2 n P p =>
  ⟨_, _, p.2, .bl _, fun Q q => ⟨_, _, i1.dpD _ _ _ p.1.1.2, i2.dpD _ _ _ p.1.2.2, p.1.1.1, p.1.2.1, q⟩⟩
/-! ### tuples and lists by place -/
theorem im_tup {H : Hp} {v : V} {xs : List α} {fp : List Addr} (h : Im K H v (enc xs) fp) : ∃ a vs, v = .ref a ∧ TupR H a vs ∧ ImA K H vs (xs.map enc) fp := by
  cases h with
  | tup e a => exact ⟨_, _, rfl, e, a⟩
theorem im_lst {H : Hp} {v : V} {xs : Lst α} {fp : List Addr} (h : Im K H v (enc xs) fp) : ∃ a vs fq, v = .ref a ∧ H a = some (.lst vs) ∧ ImA K H vs (xs.l.map enc) fq ∧ fp = a :: fq := by
  cases h with
  | lst e a q => exact ⟨_, _, _, rfl, e, a, q⟩
theorem ima_at {H : Hp} {vs : List V} {xs : List α} {fp : List Addr} {i : Int} {a : α} [Pu α] (h : ImA K H vs (xs.map enc) fp) (e : atI xs i = some a) : ∃ v, atI vs i = some v ∧ Im K H v (enc a) [] := by
  unfold atI at e ⊢
  rw [h.len, List.length_map]
  cases hx : ixN xs.length i with
  | none => rw [hx] at e; cases e
  | some j =>
    rw [hx] at e
    have e : xs[j]? = some a := e
    obtain ⟨v, fq, h1, h2, h3⟩ := h.get (i := j) (d := enc a) (by rw [List.getElem?_map, e]; rfl)
    have := Pu.pu h2
    subst this
    exact ⟨v, h1, h2⟩
theorem ow_ixT [Pu α] : OpW K (rIxT K) (fun (xs : List α) (i : Int) n P => ∃ a, atI xs i = some a ∧ P a n) := opw_pure fun xs i H v w fp fq i1 i2 n P p => by
  obtain ⟨a, ea, pa⟩ := p
  obtain ⟨t, vs, rfl, hT, hA⟩ := im_tup i1
  cases i2
  obtain ⟨u, h1, h2⟩ := ima_at hA ea
  exact ⟨a, u, pa, h2, fun Q q => ⟨t, vs, i, u, rfl, rfl, hT.q, h1, q⟩⟩
theorem ow_ixL [Pu α] : OpW K (rIxL K) (fun (xs : Lst α) (i : Int) n P => ∃ a, atI xs.l i = some a ∧ P a n) := opw_pure fun xs i H v w fp fq i1 i2 n P p => by
  obtain ⟨a, ea, pa⟩ := p
  obtain ⟨t, vs, fq', rfl, hT, hA, _⟩ := im_lst i1
  cases i2
  obtain ⟨u, h1, h2⟩ := ima_at hA ea
  exact ⟨a, u, pa, h2, fun Q q => ⟨t, vs, i, u, rfl, rfl, .inl (.inl hT), h1, q⟩⟩
theorem atN {xs : List α} {i : Nat} : atI xs (i : Int) = xs[i]? := by
  cases h : xs[i]? with
  | none =>
    have h1 := List.getElem?_eq_none_iff.mp h
    unfold atI ixN
    rw [if_pos (by omega), if_neg (by omega)]
    rfl
  | some a => exact atI_nat h
theorem ow_ixTN [Pu α] : OpW K (rIxT K) (fun (xs : List α) (i : Nat) n P => ∃ a, xs[i]? = some a ∧ P a n) := fun xs i H v w fp fq i1 i2 n P p => ow_ixT xs (i : Int) H v w fp fq i1 i2 n P (by obtain ⟨a, h1, h2⟩ := p; exact ⟨a, by rw [atN]; exact h1, h2⟩)
theorem ow_ixLN [Pu α] : OpW K (rIxL K) (fun (xs : Lst α) (i : Nat) n P => ∃ a, xs.l[i]? = some a ∧ P a n) := fun xs i H v w fp fq i1 i2 n P p => ow_ixL xs (i : Int) H v w fp fq i1 i2 n P (by obtain ⟨a, h1, h2⟩ := p; exact ⟨a, by rw [atN]; exact h1, h2⟩)
/-! pairs, threes by written places -/
/-! tuples joined -/
/-! lists joined -/
theorem nodup_app {xs ys : List Addr} (h1 : xs.Nodup) (h2 : ys.Nodup) (h : ∀ x ∈ xs, x ∉ ys) : (xs ++ ys).Nodup := List.nodup_append.mpr ⟨h1, h2, fun x hx y hy e => h x hx (by rw [e]; exact hy)⟩
theorem ow_catL [Pu α] : OpW K rCat (fun (xs ys : Lst α) => reqW (xs.l.length + ys.l.length ≤ sizeLine) (retW (⟨xs.l ++ ys.l⟩ : Lst α))) := fun xs ys H v w fp fq i1 i2 n P p Q q => by
  obtain ⟨a, vs, f1, rfl, hT, hA, _⟩ := im_lst i1
  obtain ⟨b, ws, f2, rfl, hT2, hA2, _⟩ := im_lst i2
  have e1 := ima_pu hA
  have e2 := ima_pu hA2
  subst e1 e2
  have hl1 := hA.len
  have hl2 := hA2.len
  rw [List.length_map] at hl1 hl2
  refine ⟨a, b, vs, ws, rfl, rfl, hT, hT2, by rw [hl1, hl2]; exact p.1, fun t nt => ?_⟩
  have s := same_new (Same.refl H) nt (o := .lst (vs ++ ws))
  refine q _ _ _ [t] p.2 s (.lst upd_same ?_ rfl) ⟨List.nodup_cons.mpr ⟨List.not_mem_nil, List.nodup_nil⟩, fun x hx => by rw [List.mem_singleton.mp hx]; exact nt⟩
  show ImA K _ _ ((xs.l ++ ys.l).map enc) []
  rw [List.map_append]
  exact (hA.app hA2).same s
/-! x in a tuple, a list of numbers -/
theorem ima_nums {H : Hp} : ∀ {xs : List Nat} {vs : List V} {fp : List Addr}, ImA K H vs (xs.map enc) fp → vs = nv xs
  | [], _, _, h => by cases h; rfl
  | x :: xs, _, _, h => by
    cases h with
    | cons a b q =>
      cases a
      rw [ima_nums b]
      rfl
theorem im_nv {H : Hp} {v : V} {xs : List Nat} {fp : List Addr} (h : Im K H v (enc xs) fp) : ∃ a, v = .ref a ∧ TupR H a (nv xs) := by
  obtain ⟨a, vs, rfl, hT, hA⟩ := im_tup h
  rw [ima_nums hA] at hT
  exact ⟨a, rfl, hT⟩
end
end Bf
namespace Bf
open PySem PySem.Spec PyProof.Rows L2 LamX NdefX
section
variable {K : PySem.W.Frag} {T : List (Addr × Str)} {ρ : List Sl}
variable {α β γ δ : Type} [Enc α] [Enc β] [Enc γ] [Enc δ]
/-! ### one part and what is made of it -/
def UnW (K : PySem.W.Frag) {α γ : Type} [Enc α] [Enc γ] (r : V → Hp → VK → Prop) (f : α → M γ) : Prop := ∀ (a : α) (H : Hp) (v : V) (fp : List Addr), Im K H v (enc a) fp → ∀ n (P : γ → Nat → Prop), f a n P →
  ∀ Q : VK, (∀ (c : γ) (H' : Hp) (v' : V) (fr : List Addr), P c n → Same H H' → Im K H' v' (enc c) fr → (fr.Nodup ∧ ∀ x ∈ fr, H x = none) → Q v' H') → r v H Q
theorem re_un {ta : TE} {t : TE} {ma : M α} {f : α → M γ} {r : V → Hp → VK → Prop} {f1 : Bool} (ht : ∀ σ H Q, (ta σ H fun x H1 => r x H1 Q) → t σ H Q) (hr : UnW K r f) (ha : RE K T ta ρ f1 ma) : RE K T t ρ true (bindW ma f) := fun Bs po φ σ H n st P p Q q =>
  ht σ H Q (ha Bs po φ σ H n st _ p _ fun a n1 v H1 fp pa a1 i1 g1 =>
    hr a H1 v fp i1 n1 _ pa Q fun c H3 v' fr pc s3 i3 g3 => q c n1 v' H3 fr pc (a1.trans (Af.same s3)) i3 (Fp.back a1.fr (fp_new (st.af a1) g3)))
theorem unw_pure {r : V → Hp → VK → Prop} {f : α → M γ} (g : ∀ (a : α) (H : Hp) (v : V) (fp : List Addr), Im K H v (enc a) fp → ∀ n (P : γ → Nat → Prop), f a n P → ∃ c v', P c n ∧ Im K H v' (enc c) [] ∧ ∀ Q : VK, Q v' H → r v H Q) : UnW K r f :=
  fun a H v fp i1 n P p Q q => by
    obtain ⟨c, v', h1, h2, h3⟩ := g a H v fp i1 n P p
    exact h3 Q (q c H v' [] h1 (Same.refl H) h2 ⟨List.nodup_nil, fun x h => absurd h List.not_mem_nil⟩)
/-- a built-in of one argument -/
theorem re_cb {ta : TE} {ma : M α} {f : α → M γ} {r : List V → Hp → VK → Prop} {f1 : Bool} (hr : UnW K (fun x => r [x]) f) (ha : RE K T ta ρ f1 ma) : RE K T (tCB r (tCons ta tNil)) ρ true (bindW ma f) := re_un (r := fun x => r [x]) (fun _ _ _ h => h) hr ha
/-- a built-in of two -/
theorem re_cb2 {ta tb : TE} {ma : M α} {mb : M β} {f : α → β → M γ} {r : List V → Hp → VK → Prop} {f1 f2 : Bool} (hr : OpW K (fun x y => r [x, y]) f) (ha : RE K T ta ρ f1 ma) (hb : RE K T tb ρ f2 mb) : RE K T (tCB r (tCons ta (tCons tb tNil))) ρ true (b2W ma mb f) :=
  fun Bs po φ σ H n st P p Q q => re_op (r := fun x y => r [x, y]) hr ha hb Bs po φ σ H n st P p Q q
theorem uw_lenL : UnW K (fun x H Q => ∃ p ys, [x] = [.ref p] ∧ (SqL K H p ys ∨ SqT K H p ys) ∧ Q (.int ys.length) H) (fun xs : Lst α => retW xs.l.length) := unw_pure fun xs H v fp i1 n P p => by
  obtain ⟨a, vs, _, rfl, hT, hA, _⟩ := im_lst i1
  have := hA.len
  rw [List.length_map] at this
  exact ⟨_, _, p, .int _, fun Q q => ⟨a, vs, rfl, .inl (.inl (.inl hT)), by rw [this]; exact q⟩⟩
def rTupOf (K : PySem.W.Frag) : List V → Hp → VK → Prop := fun xs H Q => ∃ p ys, xs = [.ref p] ∧ ((SqL K H p ys ∧ ∀ l, H l = none → Q (.ref l) (upd H l (.tup ys))) ∨ (SqT K H p ys ∧ Q (.ref p) H))
theorem uw_tupL [Pu α] : UnW K (fun x => rTupOf K [x]) (fun xs : Lst α => retW xs.l) := fun xs H v fp i1 n P p Q q => by
  obtain ⟨a, vs, f1, rfl, hT, hA, _⟩ := im_lst i1
  have := ima_pu hA
  subst this
  refine ⟨a, vs, rfl, .inl ⟨.inl (.inl hT), fun t nt => ?_⟩⟩
  have s := same_new (Same.refl H) nt (o := .tup vs)
  exact q _ _ _ [] p s (.tup upd_same (hA.same s)) ⟨List.nodup_nil, fun x h => absurd h List.not_mem_nil⟩
theorem ima_bools {H : Hp} : ∀ {xs : List Bool} {vs : List V} {fp : List Addr}, ImA K H vs (xs.map enc) fp → vs = xs.map V.bl
  | [], _, _, h => by cases h; rfl
  | x :: xs, _, _, h => by
    cases h with
    | cons a b q =>
      cases a
      rw [ima_bools b]
      rfl
theorem uw_all : UnW K (fun x => rAll K [x]) (fun xs : Lst Bool => retW (xs.l.all id)) := unw_pure fun xs H v fp i1 n P p => by
  obtain ⟨a, vs, _, rfl, hT, hA, _⟩ := im_lst i1
  rw [ima_bools hA] at hT
  exact ⟨_, _, p, .bl _, fun Q q => ⟨a, xs.l, rfl, .inl (.inl hT), q⟩⟩
theorem uw_isNT : UnW K (fun x H (Q : VK) => Q (.bl (decide (x = .non))) H) (fun x : Option (List α) => retW x.isNone) := unw_pure fun x H v fp i1 n P p => by
  cases x with
  | none => cases i1; exact ⟨_, _, p, .bl _, fun Q q => q⟩
  | some a => cases i1; exact ⟨_, _, p, .bl _, fun Q q => q⟩
theorem uw_notNT : UnW K (fun x H (Q : VK) => Q (.bl (!decide (x = .non))) H) (fun x : Option (List α) => retW (!x.isNone)) := unw_pure fun x H v fp i1 n P p => by
  cases x with
  | none => cases i1; exact ⟨_, _, p, .bl _, fun Q q => q⟩
  | some a => cases i1; exact ⟨_, _, p, .bl _, fun Q q => q⟩
theorem ow_min : OpW K (fun x y H Q => ∃ i j, [x, y] = [.int i, .int j] ∧ Q (.int (if j < i then j else i)) H) (fun a b : Nat => retW (min a b)) := opw_n0 fun a b H Q q => ⟨a, b, rfl, by
  have e : (if (b : Int) < (a : Int) then (b : Int) else (a : Int)) = ((min a b : Nat) : Int) := by split <;> omega
  rw [e]; exact q⟩
theorem ow_max : OpW K (fun x y H Q => ∃ i j, [x, y] = [.int i, .int j] ∧ Q (.int (if j > i then j else i)) H) (fun a b : Nat => retW (max a b)) := opw_n0 fun a b H Q q => ⟨a, b, rfl, by
  have e : (if (b : Int) > (a : Int) then (b : Int) else (a : Int)) = ((max a b : Nat) : Int) := by split <;> omega
  rw [e]; exact q⟩
/-! repr -/
def ReprOk (d : PyData) : Prop := d.showable = true ∧ d.hasDict = false ∧ d.depth < 60 ∧ d.shown.length ≤ sizeLine
def rReprA (K : PySem.W.Frag) : List V → Hp → VK → Prop := fun xs H Q => (xs = [.non] ∧ Q (.str "None") H) ∨ ∃ a d, xs = [.ref a] ∧ Dp K H (.ref a) d ∧ d.showable = true ∧ d.hasDict = false ∧ d.depth < 60 ∧ d.shown.length ≤ sizeLine ∧ Q (.str d.shown) H
/-! slices -/
def TO' := L2.St → Hp → (Option Int → Hp → Prop) → Prop
def RO (K : PySem.W.Frag) (T : List (Addr × Str)) (t : TO') (ρ : List Sl) (m : M (Option Int)) : Prop := ∀ (Bs : Addr → HO → Prop) (po : Option Addr) (φ : Nat → List Addr) (σ : L2.St) (H : Hp) (n : Nat), ST K T Bs po ρ φ σ H n → ∀ P : Option Int → Nat → Prop, m n P →
  ∀ Q : Option Int → Hp → Prop, (∀ (a : Option Int) (n' : Nat) (H' : Hp), P a n' → Af K T po H n H' n' → Q a H') → t σ H Q
theorem ro_none : RO K T tNoPart ρ (retW none) := fun Bs po φ σ H n st P p Q q => q none n H p Af.refl
theorem ro_nat {t : TE} {m : M Nat} {f : Bool} (h : RE K T t ρ f m) : RO K T (tPart t) ρ (bindW m fun k => retW (some (k : Int))) := fun Bs po φ σ H n st P p Q q => h Bs po φ σ H n st _ p _ fun a n' v H' fp pa af im g => by
  cases im
  exact ⟨_, rfl, q _ n' H' pa af⟩
def cutW (xs : List α) (lo hi : Option Int) : List α := (xs.drop (HT.sIx xs.length 0 lo)).take (HT.sIx xs.length xs.length hi - HT.sIx xs.length 0 lo)
theorem ima_drop {H : Hp} [Pu α] : ∀ {xs : List α} {vs : List V} (k : Nat), ImA K H vs (xs.map enc) [] → ImA K H (vs.drop k) ((xs.drop k).map enc) []
  | [], _, k, h => by cases h; rw [List.drop_nil, List.drop_nil]; exact .nil
  | x :: xs, _, 0, h => h
  | x :: xs, _, k + 1, h => by
    cases h with
    | cons a b q =>
      have := ima_pu b
      subst this
      exact ima_drop k b
theorem ima_take {H : Hp} [Pu α] : ∀ {xs : List α} {vs : List V} (k : Nat), ImA K H vs (xs.map enc) [] → ImA K H (vs.take k) ((xs.take k).map enc) []
  | [], _, k, h => by cases h; rw [List.take_nil, List.take_nil]; exact .nil
  | x :: xs, _, 0, h => .nil
  | x :: xs, _, k + 1, h => by
    cases h with
    | cons a b q =>
      have := ima_pu b
      subst this
      have e := Pu.pu a
      subst e
      exact .cons a (ima_take k b) rfl
theorem ima_cut {H : Hp} [Pu α] {xs : List α} {vs : List V} {lo hi : Option Int} (h : ImA K H vs (xs.map enc) []) : ImA K H (cutV vs lo hi) ((cutW xs lo hi).map enc) [] := by
  unfold cutV cutW
  rw [h.len, List.length_map]
  exact ima_take _ (ima_drop _ h)
def slLW {α : Type} (m : M (Lst α)) (ml mh : M (Option Int)) : M (Lst α) := fun n P => m n fun xs n1 => ml n1 fun lo n2 => mh n2 fun hi n3 => P (⟨cutW xs.l lo hi⟩ : Lst α) n3
theorem re_slL [Pu α] {te : TE} {tl th : TO'} {m : M (Lst α)} {ml mh : M (Option Int)} {f : Bool} (h : RE K T te ρ f m) (hl : RO K T tl ρ ml) (hh : RO K T th ρ mh) :
    RE K T (tSl (rSlL K) te tl th) ρ true (slLW m ml mh) := fun Bs po φ σ H n st P p Q q =>
  h Bs po φ σ H n st _ p _ fun xs n1 v H1 fp pa a1 i1 g1 => hl Bs po φ σ H1 n1 (st.af a1) _ pa _ fun lo n2 H2 pb a2 => hh Bs po φ σ H2 n2 ((st.af a1).af a2) _ pb _ fun hi n3 H3 pc a3 => by
    have i3 := (i1.af g1.1 a2.fr).af g1.1 a3.fr
    obtain ⟨a, vs, f1, rfl, hT, hA, _⟩ := im_lst i3
    have := ima_pu hA
    subst this
    have hc := ima_cut (lo := lo) (hi := hi) hA
    have af := (a1.trans a2).trans a3
    refine ⟨a, vs, rfl, .inl (.inl hT), fun t nt => ?_⟩
    have s := same_new (Same.refl H3) nt (o := .lst (cutV vs lo hi))
    have st3 := ((st.af a1).af a2).af a3
    exact q _ n3 _ _ [t] pc (af.trans (Af.same s)) (.lst upd_same (hc.same s) rfl) (Fp.back af.fr (fp_new st3 ⟨List.nodup_cons.mpr ⟨List.not_mem_nil, List.nodup_nil⟩, fun x hx => by rw [List.mem_singleton.mp hx]; exact nt⟩))
/-! displays -/
def RAs (K : PySem.W.Frag) (T : List (Addr × Str)) (t : TA) (ρ : List Sl) {α : Type} [Enc α] (m : M (List α)) : Prop := ∀ (Bs : Addr → HO → Prop) (po : Option Addr) (φ : Nat → List Addr) (σ : L2.St) (H : Hp) (n : Nat), ST K T Bs po ρ φ σ H n → ∀ P : List α → Nat → Prop, m n P →
  ∀ Q : List V → Hp → Prop, (∀ (a : List α) (n' : Nat) (vs : List V) (H' : Hp), P a n' → Af K T po H n H' n' → ImA K H' vs (a.map enc) [] → Q vs H') → t σ H Q
theorem ras_nil : RAs K T tNil ρ (retW ([] : List α)) := fun Bs po φ σ H n st P p Q q => q [] n [] H p Af.refl .nil
theorem ras_cons [Pu α] {t : TE} {tr : TA} {m : M α} {ms : M (List α)} {f : Bool} (h : RE K T t ρ f m) (hs : RAs K T tr ρ ms) : RAs K T (tCons t tr) ρ (b2W m ms fun a as => retW (a :: as)) := fun Bs po φ σ H n st P p Q q =>
  h Bs po φ σ H n st _ p _ fun a n1 v H1 fp pa a1 i1 g1 => hs Bs po φ σ H1 n1 (st.af a1) _ pa _ fun as n2 vs H2 pb a2 i2 => by
    have i1' := i1.af g1.1 a2.fr
    have := Pu.pu i1'
    subst this
    exact q _ n2 _ H2 pb (a1.trans a2) (.cons i1' i2 rfl)
theorem re_lst {t : TA} {m : M (List α)} (h : RAs K T t ρ m) : RE K T (tLst t) ρ true (bindW m fun xs => reqW (xs.length ≤ sizeLine) (retW (⟨xs⟩ : Lst α))) := fun Bs po φ σ H n st P p Q q =>
  h Bs po φ σ H n st _ p _ fun a n1 vs H1 pa a1 i1 => by
    have hl := i1.len
    rw [List.length_map] at hl
    refine ⟨by rw [hl]; exact pa.1, fun t nt => ?_⟩
    have s := same_new (Same.refl H1) nt (o := .lst vs)
    exact q _ n1 _ _ [t] pa.2 (a1.trans (Af.same s)) (.lst upd_same (i1.same s) rfl) (Fp.back a1.fr (fp_new (st.af a1) ⟨List.nodup_cons.mpr ⟨List.not_mem_nil, List.nodup_nil⟩, fun x hx => by rw [List.mem_singleton.mp hx]; exact nt⟩))
theorem re_tupL {t : TA} {m : M (List α)} (h : RAs K T t ρ m) : RE K T (tTup t) ρ true (bindW m fun xs => reqW (xs.length ≤ sizeLine) (retW xs)) := fun Bs po φ σ H n st P p Q q =>
  h Bs po φ σ H n st _ p _ fun a n1 vs H1 pa a1 i1 => by
    have hl := i1.len
    rw [List.length_map] at hl
    refine ⟨by rw [hl]; exact pa.1, fun t nt => ?_⟩
    have s := same_new (Same.refl H1) nt (o := .tup vs)
    exact q _ n1 _ _ [] pa.2 (a1.trans (Af.same s)) (.tup upd_same (i1.same s)) Fp.nil
/-- two things of which each is new -/
theorem fp_two {H H1 : Hp} {po : Option Addr} {n n1 : Nat} {f1 f2 : List Addr} {v : V} {d : PyData} (a1 : Af K T po H n H1 n1) (i1 : Im K H1 v d f1) (g1 : Fp H po true f1) (g2 : Fp H1 po true f2) : Fp H po true (f1 ++ f2) := by
  have g2' := Fp.back a1.fr g2
  refine ⟨fun b hb => (List.mem_append.mp hb).elim (g1.1 b) (g2.1 b), fun _ => ⟨nodup_app (g1.2 rfl).1 (g2.2 rfl).1 fun x hx hy => ?_, fun b hb => (List.mem_append.mp hb).elim ((g1.2 rfl).2 b) ((g2'.2 rfl).2 b)⟩⟩
  obtain ⟨l, hl, hm⟩ := Im.mtb _ _ _ i1 x hx
  obtain ⟨ps, z⟩ := (g2.2 rfl).2 x hy _ hl
  exact hm.tbl ps z
theorem re_pair {ta tb : TE} {ma : M α} {mb : M β} (ha : RE K T ta ρ true ma) (hb : RE K T tb ρ true mb) : RE K T (tTup (tCons ta (tCons tb tNil))) ρ true (b2W ma mb fun a b => retW (a, b)) := fun Bs po φ σ H n st P p Q q =>
  ha Bs po φ σ H n st _ p _ fun a n1 v H1 fp pa a1 i1 g1 => hb Bs po φ σ H1 n1 (st.af a1) _ pa _ fun b n2 w H2 fq pb a2 i2 g2 => by
    refine ⟨by show 2 ≤ sizeLine; decide, fun t nt => ?_⟩
    have s := same_new (Same.refl H2) nt (o := .tup [v, w])
    have i1' := (i1.af g1.1 a2.fr).same s
    exact q _ n2 _ _ (fp ++ fq) pb ((a1.trans a2).trans (Af.same s)) (.tup upd_same (.cons i1' (.cons (i2.same s) .nil (List.append_nil _).symm) rfl)) (fp_two a1 i1 g1 g2)
def t3W {α β γ : Type} (ma : M α) (mb : M β) (mc : M γ) : M (T3 α β γ) := fun n P => ma n fun a n1 => mb n1 fun b n2 => mc n2 fun c n3 => P (⟨a, b, c⟩ : T3 α β γ) n3
theorem re_t3 {ta tb tc : TE} {ma : M α} {mb : M β} {mc : M γ} (ha : RE K T ta ρ true ma) (hb : RE K T tb ρ true mb) (hc : RE K T tc ρ true mc) : RE K T (tTup (tCons ta (tCons tb (tCons tc tNil)))) ρ true (t3W ma mb mc) := fun Bs po φ σ H n st P p Q q =>
  ha Bs po φ σ H n st _ p _ fun a n1 v H1 fp pa a1 i1 g1 => hb Bs po φ σ H1 n1 (st.af a1) _ pa _ fun b n2 w H2 fq pb a2 i2 g2 => hc Bs po φ σ H2 n2 ((st.af a1).af a2) _ pb _ fun c n3 u H3 fr pc a3 i3 g3 => by
    refine ⟨by show 3 ≤ sizeLine; decide, fun t nt => ?_⟩
    have s := same_new (Same.refl H3) nt (o := .tup [v, w, u])
    have i1' := ((i1.af g1.1 a2.fr).af g1.1 a3.fr).same s
    have i2' := (i2.af g2.1 a3.fr).same s
    have i3' := i3.same s
    exact q _ n3 _ _ _ pc (((a1.trans a2).trans a3).trans (Af.same s)) (.tup upd_same (.cons i1' (.cons i2' (.cons i3' .nil (List.append_nil _).symm) rfl) rfl)) (fp_two a1 i1 g1 (fp_two a2 i2 g2 g3))
/-! tests -/
theorem rt_val {t : TE} {m : M Bool} {f : Bool} (h : RE K T t ρ f m) : RT K T (tB t) ρ m := fun Bs po φ σ H n st P p Q q => h Bs po φ σ H n st _ p _ fun a n1 v H1 fp pa a1 i1 g1 => by
  cases i1
  exact ⟨_, rfl, q _ n1 H1 pa a1⟩
theorem rt_test {t : TE} {m : M Bool} {f : Bool} (h : RE K T t ρ f m) : RT K T (tTest t) ρ m := fun Bs po φ σ H n st P p Q q => h Bs po φ σ H n st _ p _ fun a n1 v H1 fp pa a1 i1 g1 => by
  cases i1
  exact ⟨_, rfl, q _ n1 H1 pa a1⟩
def andW (a b : M Bool) : M Bool := bindW a fun x => if x = true then b else retW false
def orW (a b : M Bool) : M Bool := bindW a fun x => if x = true then retW true else b
theorem rt_and {t u : TT} {a b : M Bool} (ha : RT K T t ρ a) (hb : RT K T u ρ b) : RT K T (tAnd t u) ρ (andW a b) := fun Bs po φ σ H n st P p Q q => ha Bs po φ σ H n st _ p _ fun x n1 H1 pa a1 => by
  cases x with
  | true => exact (if_pos rfl).mpr (hb Bs po φ σ H1 n1 (st.af a1) _ pa _ fun y n2 H2 pb a2 => q y n2 H2 pb (a1.trans a2))
  | false => exact (if_neg (by decide)).mpr (q false n1 H1 pa a1)
theorem rt_or {t u : TT} {a b : M Bool} (ha : RT K T t ρ a) (hb : RT K T u ρ b) : RT K T (tOr t u) ρ (orW a b) := fun Bs po φ σ H n st P p Q q => ha Bs po φ σ H n st _ p _ fun x n1 H1 pa a1 => by
  cases x with
  | false => exact (if_neg (by decide)).mpr (hb Bs po φ σ H1 n1 (st.af a1) _ pa _ fun y n2 H2 pb a2 => q y n2 H2 pb (a1.trans a2))
  | true => exact (if_pos rfl).mpr (q true n1 H1 pa a1)
theorem rt_not {t : TT} {a : M Bool} (ha : RT K T t ρ a) : RT K T (tNot t) ρ (mapW (fun b => !b) a) := fun Bs po φ σ H n st P p Q q => ha Bs po φ σ H n st _ p _ fun x n1 H1 pa a1 => q _ n1 H1 pa a1
theorem rt_yes : RT K T tYes ρ (retW true) := fun Bs po φ σ H n st P p Q q => q true n H p Af.refl
/-! truths as values -/
theorem re_and {ta tb : TE} {a b : M Bool} {f1 f2 : Bool} (ha : RE K T ta ρ f1 a) (hb : RE K T tb ρ f2 b) : RE K T (tAndV ta tb) ρ true (andW a b) := fun Bs po φ σ H n st P p Q q => ha Bs po φ σ H n st _ p _ fun x n1 v H1 fp pa a1 i1 g1 => by
  cases i1
  refine ⟨x, rfl, ?_⟩
  cases x with
  | true => exact (if_pos rfl).mpr (hb Bs po φ σ H1 n1 (st.af a1) _ pa _ fun y n2 w H2 fq pb a2 i2 g2 => q y n2 w H2 fq pb (a1.trans a2) i2 (by rw [Pu.pu i2]; exact Fp.nil))
  | false => exact (if_neg (by decide)).mpr (q false n1 _ H1 [] pa a1 (.bl _) Fp.nil)
theorem re_if {t : TT} {ta tb : TE} {c : M Bool} {a b : M α} {f : Bool} (hc : RT K T t ρ c) (ha : RE K T ta ρ f a) (hb : RE K T tb ρ f b) : RE K T (tIf t ta tb) ρ f (bindW c fun x => if x = true then a else b) := fun Bs po φ σ H n st P p Q q => hc Bs po φ σ H n st _ p _ fun x n1 H1 pa a1 => by
  cases x with
  | true => exact (if_pos rfl).mpr (ha Bs po φ σ H1 n1 (st.af a1) _ pa _ fun y n2 w H2 fq pb a2 i2 g2 => q y n2 w H2 fq pb (a1.trans a2) i2 (Fp.back a1.fr g2))
  | false => exact (if_neg (by decide)).mpr (hb Bs po φ σ H1 n1 (st.af a1) _ pa _ fun y n2 w H2 fq pb a2 i2 g2 => q y n2 w H2 fq pb (a1.trans a2) i2 (Fp.back a1.fr g2))
end
end Bf
namespace Bf
open PySem PySem.Spec PyProof.Rows L2 LamX NdefX
/-! ### slots forgotten -/
def wipeR (ρ : List Sl) : List Nat → List Sl
  | [] => ρ
  | v :: vs => (wipeR ρ vs).set v .any
theorem wipeR_len (ρ : List Sl) : ∀ vs, (wipeR ρ vs).length = ρ.length
  | [] => rfl
  | v :: vs => by unfold wipeR; rw [List.length_set, wipeR_len ρ vs]
theorem wipeR_get {ρ : List Sl} {i : Nat} {s : Sl} : ∀ {vs : List Nat}, (wipeR ρ vs)[i]? = some s → s = .any ∨ (ρ[i]? = some s ∧ i ∉ vs)
  | [], h => .inr ⟨h, List.not_mem_nil⟩
  | v :: vs, h => by
    unfold wipeR at h
    rw [List.getElem?_set] at h
    by_cases e : v = i
    · rw [if_pos e] at h
      split at h
      · exact .inl (Option.some.inj h).symm
      · cases h
    · rw [if_neg e] at h
      rcases wipeR_get h with z | ⟨z1, z2⟩
      · exact .inl z
      · exact .inr ⟨z1, fun m => (List.mem_cons.mp m).elim (fun q => e q.symm) z2⟩
theorem wipe_set {σ : L2.St} {i : Nat} {x : Option V} : ∀ {vs : List Nat}, i ∈ vs → wipe (σ.set i x) vs = wipe σ vs
  | [], h => absurd h List.not_mem_nil
  | v :: vs, h => by
    show (wipe (σ.set i x) vs).set v none = (wipe σ vs).set v none
    by_cases hm : i ∈ vs
    · rw [wipe_set hm]
    · have e : i = v := (List.mem_cons.mp h).elim id fun q => absurd q hm
      subst e
      have : ∀ (ws : List Nat), i ∉ ws → wipe (σ.set i x) ws = (wipe σ ws).set i x := by
        intro ws
        induction ws with
        | nil => intro _; rfl
        | cons w ws ih =>
          intro hw
          have h1 : w ≠ i := fun e => hw (by rw [e]; exact List.mem_cons_self)
          show (wipe (σ.set i x) ws).set w none = ((wipe σ ws).set w none).set i x
          rw [ih fun m => hw (List.mem_cons_of_mem _ m), List.set_comm _ _ (Ne.symm h1)]
      rw [this vs hm, List.set_set]
theorem wipe_wipe {σ : L2.St} (vs : List Nat) : wipe (wipe σ vs) vs = wipe σ vs := by
  have : ∀ ws us : List Nat, (∀ w ∈ ws, w ∈ us) → wipe (wipe σ ws) us = wipe σ us := by
    intro ws us
    induction ws with
    | nil => intro _; rfl
    | cons w ws ih =>
      intro h
      show wipe ((wipe σ ws).set w none) us = wipe σ us
      rw [wipe_set (h w List.mem_cons_self), ih fun x hx => h x (List.mem_cons_of_mem _ hx)]
  exact this vs vs fun w h => h
section
variable {K : PySem.W.Frag} {T : List (Addr × Str)} {Bs : Addr → HO → Prop} {po : Option Addr} {ρ : List Sl} {φ : Nat → List Addr} {σ : L2.St} {H H' : Hp} {n n' : Nat}
theorem ST.wipe (h : ST K T Bs po ρ φ σ H n) (vs : List Nat) : ST K T Bs po (wipeR ρ vs) φ (L2.wipe σ vs) H n where
  tabs := h.tabs
  base := h.base
  pot := h.pot
  len := by rw [wipe_length, wipeR_len, h.len]
  sl := fun i s e => by
    rcases wipeR_get e with rfl | ⟨e, hi⟩
    · trivial
    · rw [wipe_out hi]
      exact h.sl i s e
  dis := fun i j d e hij ei ej => by
    rcases wipeR_get ei with z | ⟨ei, _⟩
    · cases z
    · rcases wipeR_get ej with z | ⟨ej, _⟩
      · cases z
      · exact h.dis i j d e hij ei ej
/-- set to something that no other slot holds -/
theorem ST.put (h : ST K T Bs po ρ φ σ H n) {i : Nat} (hi : i < ρ.length) {v : V} {d : PyData} {fp : List Addr} (hv : Im K H v d fp) (hn : fp.Nodup) (hp : ∀ b ∈ fp, po ≠ some b ∧ (∀ o, ¬ Bs b o) ∧ ∀ j e, j ≠ i → ρ[j]? = some (.own e) → b ∉ φ j) :
    ST K T Bs po (ρ.set i (.own d)) (fun j => if j = i then fp else φ j) (σ.set i (some v)) H n := by
  refine ⟨h.tabs, h.base, h.pot, by rw [List.length_set, List.length_set, h.len], fun j s e => ?_, fun j k d1 e1 hjk ej ek => ?_⟩
  · rw [List.getElem?_set] at e ⊢
    by_cases hij : i = j
    · subst hij
      rw [if_pos rfl, if_pos hi] at e
      obtain rfl : Sl.own d = s := Option.some.inj e
      rw [if_pos rfl, if_pos (by rw [h.len]; exact hi)]
      show SlOk K Bs po H _ _ (if i = i then fp else φ i)
      rw [if_pos rfl]
      exact ⟨v, rfl, hv, hn, fun b hb => ⟨(hp b hb).1, (hp b hb).2.1⟩⟩
    · rw [if_neg hij] at e ⊢
      show SlOk K Bs po H _ _ (if j = i then fp else φ j)
      rw [if_neg (Ne.symm hij)]
      exact h.sl j s e
  · show ∀ b ∈ (if j = i then fp else φ j), b ∉ (if k = i then fp else φ k)
    rw [List.getElem?_set] at ej ek
    by_cases hji : i = j
    · subst hji
      rw [if_pos rfl]
      rw [if_neg hjk] at ek
      rw [if_neg (Ne.symm hjk)]
      exact fun b hb => (hp b hb).2.2 k e1 (Ne.symm hjk) ek
    · rw [if_neg hji] at ej
      rw [if_neg (Ne.symm hji)]
      by_cases hki : i = k
      · subst hki
        rw [if_pos rfl]
        exact fun b hb z => (hp b z).2.2 j d1 (Ne.symm hji) ej hb
      · rw [if_neg hki] at ek
        rw [if_neg (Ne.symm hki)]
        exact h.dis j k d1 e1 hjk ej ek
theorem ST.put0 (h : ST K T Bs po ρ φ σ H n) {i : Nat} (hi : i < ρ.length) {v : V} {d : PyData} (hv : Im K H v d []) : ST K T Bs po (ρ.set i (.own d)) (fun j => if j = i then [] else φ j) (σ.set i (some v)) H n :=
  h.put hi hv List.nodup_nil fun b hb => absurd hb List.not_mem_nil
theorem ST.fresh_new (h : ST K T Bs po ρ φ σ H n) {fp : List Addr} (f : Fp H po true fp) (i : Nat) : fp.Nodup ∧ ∀ b ∈ fp, po ≠ some b ∧ (∀ o, ¬ Bs b o) ∧ ∀ j e, j ≠ i → ρ[j]? = some (.own e) → b ∉ φ j :=
  ⟨(f.2 rfl).1, fun b hb => ⟨f.1 b hb, h.fresh_bs ((f.2 rfl).2 b hb), fun j e _ ej => h.fresh_own ((f.2 rfl).2 b hb) ej⟩⟩
end
section
variable {K : PySem.W.Frag} {T : List (Addr × Str)} {ρ : List Sl}
variable {α β γ δ : Type} [Enc α] [Enc β] [Enc γ] [Enc δ]
/-! ### targets -/
/-- D isn't in what the slots hold -/
def Out (D : Addr) (ρ : List Sl) (φ : Nat → List Addr) : Prop := ∀ i d, (ρ[i]? = some (.own d) ∨ ρ[i]? = some (.bor d)) → D ∉ φ i
theorem Out.put {D : Addr} {ρ : List Sl} {φ : Nat → List Addr} {i : Nat} {d : PyData} {fp : List Addr} (h : Out D ρ φ) (hf : D ∉ fp) : Out D (ρ.set i (.own d)) (fun j => if j = i then fp else φ j) := fun j e ej => by
  show D ∉ (if j = i then fp else φ j)
  by_cases hji : j = i
  · rw [if_pos hji]; exact hf
  · rw [if_neg hji]
    rw [List.getElem?_set, if_neg (Ne.symm hji)] at ej
    exact h j e ej
theorem Out.new {K : PySem.W.Frag} {T : List (Addr × Str)} {Bs : Addr → HO → Prop} {po : Option Addr} {ρ : List Sl} {φ : Nat → List Addr} {σ : L2.St} {H : Hp} {n : Nat} (st : ST K T Bs po ρ φ σ H n) {D : Addr} (nD : H D = none) : Out D ρ φ := fun i d e z => by
  rcases e with e | e
  · obtain ⟨v, h1, h2, h3⟩ := st.sl i _ e
    obtain ⟨o, ho, _⟩ := Im.mtb _ _ _ h2 D z
    rw [nD] at ho; cases ho
  · obtain ⟨v, h1, h2, h3⟩ := st.sl i _ e
    obtain ⟨o, ho, _⟩ := Im.mtb _ _ _ h2 D z
    rw [nD] at ho; cases ho
theorem Out.wipe {D : Addr} {ρ : List Sl} {φ : Nat → List Addr} (h : Out D ρ φ) (vs : List Nat) : Out D (wipeR ρ vs) φ := fun i d e => by
  rcases e with e | e
  · rcases wipeR_get e with z | ⟨z, _⟩
    · cases z
    · exact h i d (.inl z)
  · rcases wipeR_get e with z | ⟨z, _⟩
    · cases z
    · exact h i d (.inr z)
def RG (K : PySem.W.Frag) (T : List (Addr × Str)) (ts : List Nat) (g : TG) {α : Type} [Enc α] (a : α) (ρ ρ' : List Sl) : Prop := ∀ (Bs : Addr → HO → Prop) (po : Option Addr) (φ : Nat → List Addr) (σ : L2.St) (H : Hp) (n : Nat), ST K T Bs po ρ φ σ H n → ∀ v fp, Im K H v (enc a) fp → fp.Nodup →
  (∀ b ∈ fp, po ≠ some b ∧ (∀ o, ¬ Bs b o) ∧ ∀ j e, ρ[j]? = some (.own e) → b ∉ φ j) → ∀ Q : L2.St → Hp → Prop, (∀ σ' φ', ST K T Bs po ρ' φ' σ' H n → (∀ js : List Nat, (∀ t ∈ ts, t ∈ js) → wipe σ' js = wipe σ js) → (∀ D, Out D ρ φ → D ∉ fp → Out D ρ' φ') → Q σ' H) → g v σ H Q
theorem rg_name {i : Nat} {a : α} {ρ' : List Sl} (hi : i < ρ.length) (e : ρ.set i (.own (enc a)) = ρ') : RG K T [i] (gName i) a ρ ρ' := fun Bs po φ σ H n st v fp im nd hp Q q => by
  subst e
  exact q _ _ (st.put hi im nd fun b hb => ⟨(hp b hb).1, (hp b hb).2.1, fun j e _ ej => (hp b hb).2.2 j e ej⟩) (fun js h => wipe_set (h i List.mem_cons_self)) fun D o f => o.put f
/-- two targets -/
theorem rg_two {i j : Nat} {x : α × β} {ρ1 ρ' : List Sl} (hi : i < ρ.length) (hj : j < ρ.length) (hij : i ≠ j) (e : ρ.set i (.own (enc x.1)) = ρ1) (e2 : ρ1.set j (.own (enc x.2)) = ρ') : RG K T [i, j] (gTup K 2 (gCons (gName i) (gCons (gName j) gNil))) x ρ ρ' := fun Bs po φ σ H n st v fp im nd hp Q q => by
  cases im with
  | tup hT hA =>
    obtain ⟨v1, v2, f1, f2, rfl, h1, h2, rfl⟩ := ima2 hA
    obtain ⟨n1, n2, n3⟩ := List.nodup_append.mp nd
    have st1 := st.put hi h1 n1 fun b hb => ⟨(hp b (List.mem_append_left _ hb)).1, (hp b (List.mem_append_left _ hb)).2.1, fun j e _ ej => (hp b (List.mem_append_left _ hb)).2.2 j e ej⟩
    have st2 := st1.put (i := j) (by rw [List.length_set]; exact hj) h2 n2 fun b hb => ⟨(hp b (List.mem_append_right _ hb)).1, (hp b (List.mem_append_right _ hb)).2.1, fun k d hk ek => by
      show b ∉ (if k = i then f1 else φ k)
      by_cases hki : k = i
      · rw [if_pos hki]
        exact fun z => n3 b z b hb rfl
      · rw [if_neg hki]
        rw [List.getElem?_set, if_neg (Ne.symm hki)] at ek
        exact (hp b (List.mem_append_right _ hb)).2.2 k d ek⟩
    rw [e, e2] at st2
    refine ⟨_, _, rfl, hT.q, rfl, _, _, rfl, _, _, rfl, rfl, q _ _ st2 (fun js h => ?_) fun D o f => ?_⟩
    · rw [wipe_set (h j (List.mem_cons_of_mem _ List.mem_cons_self)), wipe_set (h i List.mem_cons_self)]
    · rw [← e2, ← e]
      exact (o.put fun z => f (List.mem_append_left _ z)).put fun z => f (List.mem_append_right _ z)
theorem rg_three {i j k : Nat} {x : T3 α β γ} {ρ1 ρ2 ρ' : List Sl} (hi : i < ρ.length) (hj : j < ρ.length) (hk : k < ρ.length) (hij : i ≠ j) (hik : i ≠ k) (hjk : j ≠ k) (e : ρ.set i (.own (enc x.a)) = ρ1) (e2 : ρ1.set j (.own (enc x.b)) = ρ2) (e3 : ρ2.set k (.own (enc x.c)) = ρ') :
    RG K T [i, j, k] (gTup K 3 (gCons (gName i) (gCons (gName j) (gCons (gName k) gNil)))) x ρ ρ' := fun Bs po φ σ H n st v fp im nd hp Q q => by
  cases im with
  | tup hT hA =>
    obtain ⟨v1, v2, v3, f1, f2, f3, rfl, h1, h2, h3, rfl⟩ := ima3 hA
    obtain ⟨n1, n23, n4⟩ := List.nodup_append.mp nd
    obtain ⟨n2, n3, n5⟩ := List.nodup_append.mp n23
    have st1 := st.put hi h1 n1 fun b hb => ⟨(hp b (List.mem_append_left _ hb)).1, (hp b (List.mem_append_left _ hb)).2.1, fun j e _ ej => (hp b (List.mem_append_left _ hb)).2.2 j e ej⟩
    have st2 := st1.put (i := j) (by rw [List.length_set]; exact hj) h2 n2 fun b hb => by
      have hb2 : b ∈ f1 ++ (f2 ++ f3) := List.mem_append_right _ (List.mem_append_left _ hb)
      refine ⟨(hp b hb2).1, (hp b hb2).2.1, fun k d hk ek => ?_⟩
      show b ∉ (if k = i then f1 else φ k)
      by_cases hki : k = i
      · rw [if_pos hki]
        exact fun z => n4 b z b (List.mem_append_left _ hb) rfl
      · rw [if_neg hki]
        rw [List.getElem?_set, if_neg (Ne.symm hki)] at ek
        exact (hp b hb2).2.2 k d ek
    have st3 := st2.put (i := k) (by rw [List.length_set, List.length_set]; exact hk) h3 n3 fun b hb => by
      have hb2 : b ∈ f1 ++ (f2 ++ f3) := List.mem_append_right _ (List.mem_append_right _ hb)
      refine ⟨(hp b hb2).1, (hp b hb2).2.1, fun l d hl el => ?_⟩
      show b ∉ (if l = j then f2 else if l = i then f1 else φ l)
      by_cases hlj : l = j
      · rw [if_pos hlj]
        exact fun z => n5 b z b hb rfl
      · rw [if_neg hlj]
        by_cases hli : l = i
        · rw [if_pos hli]
          exact fun z => n4 b z b (List.mem_append_right _ hb) rfl
        · rw [if_neg hli]
          rw [List.getElem?_set, if_neg (Ne.symm hlj), List.getElem?_set, if_neg (Ne.symm hli)] at el
          exact (hp b hb2).2.2 l d el
    rw [e, e2, e3] at st3
    refine ⟨_, _, rfl, hT.q, rfl, _, _, rfl, _, _, rfl, _, _, rfl, rfl, q _ _ st3 (fun js h => ?_) fun D o f => ?_⟩
    · rw [wipe_set (h k (by simp)), wipe_set (h j (by simp)), wipe_set (h i (by simp))]
    · rw [← e3, ← e2, ← e]
      exact ((o.put fun z => f (List.mem_append_left _ z)).put fun z => f (List.mem_append_right _ (List.mem_append_left _ z))).put fun z => f (List.mem_append_right _ (List.mem_append_right _ z))
/-! ### what is gone through -/
structure ItOk (K : PySem.W.Frag) (J : It) (H1 : Hp) {α : Type} [Enc α] (xs : List α) (fi : List Addr) : Prop where
  ex : ∃ (G : Hp → Prop) (Y : Nat → Hp → V → Hp → Prop), Walk J xs.length G Y ∧ G H1 ∧ (∀ H H' : Hp, (∀ b ∈ fi, ∀ l, H b = some (.lst l) → H' b = some (.lst l)) → (∀ b l, TupR H b l → TupR H' b l) → (∀ b ∈ fi, ∃ l, H1 b = some (.lst l) ∧ H b = some (.lst l)) → G H → G H') ∧
    ∀ i H x H', i < xs.length → G H → Y i H x H' → ∃ a, xs[i]? = some a ∧ Same H H' ∧ Im K H' x (enc a) []
  lst : ∀ b ∈ fi, ∃ l, H1 b = some (.lst l)
def RI (K : PySem.W.Frag) (T : List (Addr × Str)) (wi : TI) (ρ : List Sl) {α : Type} [Enc α] (m : M (List α)) : Prop := ∀ (Bs : Addr → HO → Prop) (po : Option Addr) (φ : Nat → List Addr) (σ : L2.St) (H : Hp) (n : Nat), ST K T Bs po ρ φ σ H n → ∀ P : List α → Nat → Prop, m n P →
  ∀ R : It → Hp → Prop, (∀ (xs : List α) (n' : Nat) (J : It) (H1 : Hp) (fi : List Addr), P xs n' → Af K T po H n H1 n' → ItOk K J H1 xs fi → (∀ b ∈ fi, po ≠ some b) → (∀ b ∈ fi, (∃ o, Bs b o) ∨ Fsh H b) → R J H1) → wi σ H R
theorem ri_range {t : TE} {m : M Nat} {f : Bool} (h : RE K T t ρ f m) : RI K T (iRng1 (tCons t tNil)) ρ (bindW m fun k => reqW (k < 4611686018427387904) (retW (List.range k))) := fun Bs po φ σ H n st P p R q => h Bs po φ σ H n st _ p _ fun k n1 v H1 fp pa a1 i1 g1 => by
  cases i1
  refine ⟨(k : Int), rfl, by omega, by have := pa.1; omega, ?_⟩
  refine q _ n1 _ H1 [] pa.2 a1 ⟨⟨fun _ => True, YFn fun i => .int (0 + i), ?_, trivial, fun _ _ _ _ _ _ => trivial, fun i H x H' hi _ y => ?_⟩, fun b hb => absurd hb List.not_mem_nil⟩ (fun b hb => absurd hb List.not_mem_nil) fun b hb => absurd hb List.not_mem_nil
  · rw [List.length_range, Int.toNat_natCast]
    exact walk_range
  · obtain ⟨rfl, rfl⟩ := y
    rw [List.length_range] at hi
    refine ⟨i, List.getElem?_range hi, Same.refl _, ?_⟩
    show Im K _ (.int (0 + (i : Int))) (.int (i : Int)) []
    rw [Int.zero_add]
    exact .int _
def rng2 (a b : Nat) : List Nat := (List.range (b - a)).map (a + ·)
theorem ri_range2 {t u : TE} {m m2 : M Nat} {f f2 : Bool} (h : RE K T t ρ f m) (h2 : RE K T u ρ f2 m2) : RI K T (iRng2 (tCons t (tCons u tNil))) ρ (b2W m m2 fun a b => reqW (a < 4611686018427387904 ∧ b < 4611686018427387904) (retW (rng2 a b))) := fun Bs po φ σ H n st P p R q => h Bs po φ σ H n st _ p _ fun a n1 v H1 fp pa a1 i1 g1 =>
  h2 Bs po φ σ H1 n1 (st.af a1) _ pa _ fun b n2 w H2 fq pb a2 i2 g2 => by
  cases i1
  cases i2
  have h1 := pb.1.1
  have h2 := pb.1.2
  refine ⟨(a : Int), (b : Int), rfl, ⟨by omega, by omega, by omega, by omega⟩, ?_⟩
  have e : ((b : Int) - (a : Int)).toNat = b - a := by omega
  rw [e]
  refine q _ n2 _ H2 [] pb.2 (a1.trans a2) ⟨⟨fun _ => True, YFn fun i => .int ((a : Int) + i), ?_, trivial, fun _ _ _ _ _ _ => trivial, fun i H x H' hi _ y => ?_⟩, fun b hb => absurd hb List.not_mem_nil⟩ (fun b hb => absurd hb List.not_mem_nil) fun b hb => absurd hb List.not_mem_nil
  · unfold rng2
    rw [List.length_map, List.length_range]
    exact walk_range
  · obtain ⟨rfl, rfl⟩ := y
    unfold rng2 at hi ⊢
    rw [List.length_map, List.length_range] at hi
    refine ⟨a + i, by rw [List.getElem?_map, List.getElem?_range hi]; rfl, Same.refl _, ?_⟩
    show Im K _ (.int ((a : Int) + (i : Int))) (.int ((a + i : Nat) : Int)) []
    rw [show (a : Int) + (i : Int) = ((a + i : Nat) : Int) by omega]
    exact .int _
theorem yat_im [Pu α] {xs : List α} {vs : List V} {fp : List Addr} {H : Hp} {i : Nat} {x : V} (hA : ImA K H vs (xs.map enc) fp) (hi : i < xs.length) (e : vs[i]? = some x) : ∃ a, xs[i]? = some a ∧ Im K H x (enc a) [] := by
  obtain ⟨v, fq, h1, h2, _⟩ := hA.get (i := i) (d := enc xs[i]) (by rw [List.getElem?_map, List.getElem?_eq_getElem hi]; rfl)
  have : v = x := Option.some.inj (h1.symm.trans e)
  subst this
  have := Pu.pu h2
  subst this
  exact ⟨_, List.getElem?_eq_getElem hi, h2⟩
/-- items that no list is in stand whatever else is done, as long as tuples stay -/
theorem ima_stay [Pu α] {H H' : Hp} {xs : List α} {vs : List V} {fp : List Addr} (hA : ImA K H vs (xs.map enc) fp) (ht : ∀ b l, TupR H b l → TupR H' b l) : ImA K H' vs (xs.map enc) fp := ImA.stab ht _ _ _ hA fun b hb => by
  rw [ima_pu hA] at hb
  exact absurd hb List.not_mem_nil
theorem ri_tup [Pu α] {t : TE} {m : M (List α)} {f : Bool} (h : RE K T t ρ f m) : RI K T (iTup K t) ρ m := fun Bs po φ σ H n st P p R q => h Bs po φ σ H n st _ p _ fun xs n1 v H1 fp pa a1 i1 g1 => by
  obtain ⟨a, vs, rfl, hT, hA⟩ := im_tup i1
  have hl := hA.len
  rw [List.length_map] at hl
  refine ⟨a, rfl, ⟨_, hT.q⟩, q xs n1 _ H1 [] pa a1 ⟨⟨fun H => TupR H a vs ∧ ImA K H vs (xs.map enc) fp, fun i H x H' => YAt vs i H x H', ?_, ⟨hT, hA⟩, fun H H' _ ht _ g => ⟨ht _ _ g.1, ima_stay g.2 ht⟩, fun i H x H' hi g y => ?_⟩, fun b hb => absurd hb List.not_mem_nil⟩ (fun b hb => absurd hb List.not_mem_nil) fun b hb => absurd hb List.not_mem_nil⟩
  · rw [← hl]
    exact walk_tup.mono (fun H g => g.1.q) fun i H x H' _ _ y => y
  · obtain ⟨rfl, e⟩ := y
    obtain ⟨a, h1, h2⟩ := yat_im g.2 hi e
    exact ⟨a, h1, Same.refl _, h2⟩
/-- through a list that a slot holds, to be read only -/
theorem ri_bor [Pu α] {i : Nat} {xs : Lst α} (hi : ρ[i]? = some (.bor (enc xs))) : RI K T (iList K (tVar i)) ρ (retW xs.l) := fun Bs po φ σ H n st P p R q => by
  obtain ⟨v, h1, h2, h3⟩ := st.sl i _ hi
  obtain ⟨a, vs, fq, rfl, hT, hA, e⟩ := im_lst h2
  have hl := hA.len
  have := ima_pu hA
  subst this
  rw [List.length_map] at hl
  have ha : a ∈ φ i := by rw [e]; exact List.mem_cons_self
  refine ⟨_, h1, a, rfl, ⟨_, .inl (.inl hT)⟩, q xs.l n _ H [a] p Af.refl ⟨⟨fun H => H a = some (.lst vs) ∧ ImA K H vs (xs.l.map enc) [], fun i H x H' => YAt vs i H x H', ?_, ⟨hT, hA⟩, fun H H' hl' ht _ g => ⟨hl' a List.mem_cons_self _ g.1, ima_stay g.2 ht⟩, fun i H x H' hi g y => ?_⟩, fun b hb => by rw [List.mem_singleton.mp hb]; exact ⟨_, hT⟩⟩ (fun b hb => by rw [List.mem_singleton.mp hb]; exact (h3 a ha).1) fun b hb => .inl (by rw [List.mem_singleton.mp hb]; exact (h3 a ha).2)⟩
  · rw [← hl]
    exact walk_list.mono (fun H g => .inl (.inl g.1)) fun i H x H' _ _ y => y
  · obtain ⟨rfl, e⟩ := y
    obtain ⟨a, h1, h2⟩ := yat_im g.2 hi e
    exact ⟨a, h1, Same.refl _, h2⟩
theorem pair_im {H H' : Hp} {Tp : Addr} {v w : V} {a : α} {b : β} (nT : H Tp = none) (h1 : Im K H v (enc a) []) (h2 : Im K H w (enc b) []) : Same H (upd H Tp (.tup [v, w])) ∧ Im K (upd H Tp (.tup [v, w])) (.ref Tp) (enc (a, b)) [] := by
  have s := same_new (Same.refl H) nT (o := .tup [v, w])
  exact ⟨s, .tup upd_same (.cons (h1.same s) (.cons (h2.same s) .nil rfl) rfl)⟩
/-! ### comprehensions -/
def lcW0 {α β : Type} (mt : α → M Bool) (me : α → M β) : List α → List β → M (Lst β)
  | [], acc => retW ⟨acc⟩
  | x :: xs, acc => bindW (mt x) fun b => if b = true then bindW (me x) fun y => lcW0 mt me xs (acc ++ [y]) else lcW0 mt me xs acc
theorem lcW_ex {α β : Type} (mt : α → M Bool) (me : α → M β) : ∃ g : List α → List β → M (Lst β), (∀ acc, g [] acc = retW ⟨acc⟩) ∧ ∀ x xs acc, g (x :: xs) acc = bindW (mt x) fun b => if b = true then bindW (me x) fun y => g xs (acc ++ [y]) else g xs acc := ⟨lcW0 mt me, fun _ => rfl, fun _ _ _ => rfl⟩
/-- sealed: it isn't gone through of itself -/
noncomputable def lcW {α β : Type} (mt : α → M Bool) (me : α → M β) : List α → List β → M (Lst β) := Classical.choose (lcW_ex mt me)
theorem lcW_nil {α β : Type} {mt : α → M Bool} {me : α → M β} {acc : List β} : lcW mt me [] acc = retW ⟨acc⟩ := (Classical.choose_spec (lcW_ex mt me)).1 acc
theorem lcW_cons {α β : Type} {mt : α → M Bool} {me : α → M β} {x : α} {xs : List α} {acc : List β} : lcW mt me (x :: xs) acc = bindW (mt x) fun b => if b = true then bindW (me x) fun y => lcW mt me xs (acc ++ [y]) else lcW mt me xs acc := (Classical.choose_spec (lcW_ex mt me)).2 x xs acc
theorem re_lc [Pu β] {wi : TI} {g : TG} {tt : TT} {te : TE} {vs ts : List Nat} {mi : M (List α)} {mt : α → M Bool} {me : α → M β} {ρw : List Sl} {ρx : α → List Sl} {f : Bool} (hw : wipeR ρ vs = ρw) (hi : RI K T wi ρ mi) (hts : ∀ t ∈ ts, t ∈ vs) (hg : ∀ a, RG K T ts g a ρw (ρx a))
    (ht : ∀ a, RT K T tt (ρx a) (mt a)) (he : ∀ a, RE K T te (ρx a) f (me a)) : RE K T (tLc wi g tt te vs) ρ true (bindW mi fun xs => reqW (xs.length ≤ sizeLine) (lcW mt me xs [])) := fun Bs po φ σ H n st P p Q q =>
  hi Bs po φ σ H n st _ p _ fun xs n1 J H1 fi pa a1 ok hfp hfi D nD => by
    subst hw
    obtain ⟨⟨G, Y, w, g0, gs, gy⟩, hlst⟩ := ok
    have st1 := st.af a1
    have hDp : po ≠ some D := st1.fresh_pot fun o e => by rw [nD] at e; cases e
    have sD : Same H1 (upd H1 D (.lst [])) := same_new (Same.refl H1) nD
    have hfD : ∀ b ∈ fi, b ≠ D := fun b hb e => by
      obtain ⟨l, hl⟩ := hlst b hb
      rw [e, nD] at hl
      cases hl
    refine lc_it w (fun i H' => ∃ (n' : Nat) (acc : List β) (vs' : List V), Af K T po H1 n1 H' n' ∧ G H' ∧ H' D = some (.lst vs') ∧ ImA K H' vs' (acc.map enc) [] ∧ acc.length ≤ i ∧ lcW mt me (xs.drop i) acc n' P) ⟨n1, [], [], Af.same sD, gs H1 _ (fun b hb l e => sD b _ e) (fun b l e => sD _ _ e) (fun b hb => (by obtain ⟨l, hl⟩ := hlst b hb; exact ⟨l, hl, hl⟩)) g0, upd_same, .nil, Nat.le_refl _, by rw [List.drop_zero]; exact pa.2⟩ (fun i H' _ z => by obtain ⟨_, _, _, _, z, _⟩ := z; exact z) ?_ ?_
    · rintro i x HA HB hi' ⟨n', acc, vs', af, gA, eD, hA, hacc, pl⟩ hy
      obtain ⟨a, ha, sAB, imx⟩ := gy i HA x HB hi' gA hy
      have afB := af.trans (Af.same sAB)
      have stB := (st1.af afB).wipe vs
      have hdr : xs.drop i = a :: xs.drop (i + 1) := by
        rw [List.drop_eq_getElem_cons hi']
        congr 1
        exact Option.some.inj ((List.getElem?_eq_getElem hi').symm.trans ha)
      rw [hdr, lcW_cons] at pl
      have keepG : ∀ HC nC, Af K T po H1 n1 HC nC → G HA → (∀ b ∈ fi, ∀ l, HA b = some (.lst l) → HC b = some (.lst l)) → (∀ b l, TupR HA b l → TupR HC b l) → G HC := fun HC nC afC gA' h1 h2 => gs HA HC h1 h2 (fun b hb => by
        obtain ⟨l, hl⟩ := hlst b hb
        exact ⟨l, hl, af.fr.keep b _ (hfp b hb) hl fun ps z => nomatch z⟩) gA'
      refine hg a Bs po φ (L2.wipe σ vs) HB n' stB x [] imx List.nodup_nil (fun b hb => absurd hb List.not_mem_nil) _ fun σ' φ' stx hwp _ => ⟨(hwp vs hts).trans (wipe_wipe vs), ?_⟩
      refine ht a Bs po φ' σ' HB n' stx _ pl _ fun b n2 HC pb a2 => ?_
      have eDB := sAB _ _ eD
      have eDC := a2.fr.keep D _ hDp eDB fun ps z => nomatch z
      cases b with
      | false =>
        refine (if_neg (by decide)).mpr ⟨n2, acc, vs', afB.trans a2, ?_, eDC, (hA.same sAB).af (fun b hb => absurd hb List.not_mem_nil) a2.fr, by omega, ?_⟩
        · exact keepG HC n2 (afB.trans a2) gA (fun b hb l e => a2.fr.keep b _ (hfp b hb) (sAB _ _ e) fun ps z => nomatch z) fun b l e => a2.fr.tup b l (sAB _ _ e)
        · exact pb
      | true =>
        refine (if_pos rfl).mpr (he a Bs po φ' σ' HC n2 (stx.af a2) _ pb _ fun y n3 u HE fp' pe a3 iy gy' => ?_)
        have eDE := a3.fr.keep D _ hDp eDC fun ps z => nomatch z
        have z := Pu.pu iy
        subst z
        have hAE := ((hA.same sAB).af (po := po) (fun b hb => absurd hb List.not_mem_nil) a2.fr).af (po := po) (fun b hb => absurd hb List.not_mem_nil) a3.fr
        have hl := hA.len
        rw [List.length_map] at hl
        have afE := (afB.trans a2).trans a3
        have keepU : ∀ b o, b ≠ D → HE b = some o → (upd HE D (.lst (vs' ++ [u]))) b = some o := fun b o nb e => by rw [upd_ne nb]; exact e
        have tupU : ∀ b l, TupR HE b l → TupR (upd HE D (.lst (vs' ++ [u]))) b l := fun b l e => keepU _ _ (fun z => by unfold TupR at e; rw [z, eDE] at e; cases e) e
        have afU : Af K T po H1 n1 (upd HE D (.lst (vs' ++ [u]))) n3 := by
          refine ⟨⟨fun b o hb e t => ?_, fun b l e => tupU b l (afE.fr.tup b l e)⟩, fun t => tabs_upd (afE.tabs t) eDE, fun p hp pp => ?_⟩
          · exact keepU b o (fun z => by rw [z, nD] at e; cases e) (afE.fr.keep b o hb e t)
          · obtain ⟨x1, x2, x3, e, h⟩ := afE.pot p hp pp
            exact ⟨x1, x2, x3, keepU _ _ (fun z => hDp (by rw [← z]; exact hp)) e, h⟩
        refine ⟨vs', eDE, ?_, n3, acc ++ [y], vs' ++ [u], afU, ?_, upd_same, ?_, by rw [List.length_append, List.length_singleton]; omega, pe⟩
        · rw [hl]
          have := pa.1
          omega
        · exact keepG _ n3 afU gA (fun b hb l e => keepU b _ (hfD b hb) (a3.fr.keep b _ (hfp b hb) (a2.fr.keep b _ (hfp b hb) (sAB _ _ e) fun ps z => nomatch z) fun ps z => nomatch z)) fun b l e => tupU b l (a3.fr.tup b l (a2.fr.tup b l (sAB _ _ e)))
        · rw [List.map_append]
          exact ImA.stab tupU _ _ _ (hAE.app (.cons iy .nil rfl)) fun b hb => absurd hb List.not_mem_nil
    · rintro HA ⟨n', acc, vs', af, gA, eD, hA, hacc, pl⟩
      rw [List.drop_length, lcW_nil] at pl
      have st2 := st1.af af
      exact q ⟨acc⟩ n' _ HA [D] pl (a1.trans af) (.lst eD hA rfl) (Fp.back a1.fr (fp_new st1 ⟨List.nodup_cons.mpr ⟨List.not_mem_nil, List.nodup_nil⟩, fun x hx => by rw [List.mem_singleton.mp hx]; exact nD⟩))
end
end Bf
namespace Bf
open PySem PySem.Spec PyProof.Rows L2 LamX NdefX
inductive Ctl (R B S : Type) where
  | nxt (s : S)
  | ret (r : R)
  | brk (b : B)
def Tpk (K : PySem.W.Frag) (H H' : Hp) : Prop := ∀ b xs, TupR H b xs → TupR H' b xs
def Sub (Bs Bs' : Addr → HO → Prop) : Prop := ∀ b o, Bs b o → Bs' b o
section
variable {K : PySem.W.Frag} {T : List (Addr × Str)} {Bs : Addr → HO → Prop} {po : Option Addr} {ρ : List Sl} {φ : Nat → List Addr} {σ : L2.St} {H H' : Hp} {n n' : Nat}
theorem tabs_updM {T : List (Addr × Str)} {H : Hp} {D : Addr} {u u' : HO} (t : Tabs T H) (h : H D = some u) (hm : Mtb u) : Tabs T (upd H D u') := fun y hy => by
  obtain ⟨ps, t1, t2, t3⟩ := t y hy
  refine ⟨ps, ?_, t2, fun pos cv hc => ?_⟩
  · rw [upd_ne (fun e => by rw [e, h] at t1; cases t1; exact hm)]
    exact t1
  · obtain ⟨c, e1, e2⟩ := t3 pos cv hc
    refine ⟨c, e1, ?_⟩
    rw [upd_ne (fun e => by rw [e, h] at e2; unfold CodeO at e2; cases e2; exact hm)]
    exact e2
theorem ST.writeM (h : ST K T Bs po ρ φ σ H n) {i : Nat} {a : Addr} {d d' : PyData} {u u' : HO} (hi : ρ[i]? = some (.own d)) (hv : σ[i]? = some (some (.ref a))) (ha : a ∈ φ i) (e : H a = some u) (hm : Mtb u) (hn : Im K (upd H a u') (.ref a) d' (φ i)) :
    ST K T Bs po (ρ.set i (.own d')) φ σ (upd H a u') n ∧ Tpk K H (upd H a u') := by
  obtain ⟨v, h1, h2, h3, h4⟩ := h.sl i _ hi
  have hil := (List.getElem?_eq_some_iff.mp hi).1
  have tup : ∀ b xs, TupR H b xs → TupR (upd H a u') b xs := fun b xs z => by
    unfold TupR at z ⊢
    rw [upd_ne (fun q => by rw [q, e] at z; cases z; exact hm)]
    exact z
  refine ⟨⟨tabs_updM h.tabs e hm, fun b o z => ?_, fun p hp => ?_, by rw [List.length_set]; exact h.len, fun j s ej => ?_, fun j k d1 e1 hjk ej ek => ?_⟩, tup⟩
  · obtain ⟨z1, z2, z3⟩ := h.base b o z
    exact ⟨by rw [upd_ne (fun q => (h4 a ha).2 o (by rw [← q]; exact z))]; exact z1, z2, z3⟩
  · obtain ⟨x, y, z, hH, hh⟩ := h.pot p hp
    exact ⟨x, y, z, by rw [upd_ne (fun q => (h4 a ha).1 (by rw [← q]; exact hp))]; exact hH, hh⟩
  · rw [List.getElem?_set] at ej
    by_cases hij : i = j
    · subst hij
      rw [if_pos rfl, if_pos hil] at ej
      obtain rfl : Sl.own d' = s := Option.some.inj ej
      exact ⟨_, hv, hn, h3, h4⟩
    · rw [if_neg hij] at ej
      have z := h.sl j s ej
      cases s with
      | any => trivial
      | pot => exact z
      | scr ns => exact z
      | bor d1 =>
        obtain ⟨v', z1, z2, z3⟩ := z
        refine ⟨v', z1, Im.stab tup _ _ _ z2 fun b hb xs eb _ => ?_, z3⟩
        rw [upd_ne (fun q => by obtain ⟨o, ho⟩ := (z3 b hb).2; exact (h4 a ha).2 o (by rw [← q]; exact ho))]
        exact eb
      | own d1 =>
        obtain ⟨v', z1, z2, z3, z4⟩ := z
        refine ⟨v', z1, Im.stab tup _ _ _ z2 fun b hb xs eb _ => ?_, z3, z4⟩
        rw [upd_ne (fun q => h.dis i j d d1 hij hi ej a ha (by rw [← q]; exact hb))]
        exact eb
      | borA v' fq d1 =>
        refine ⟨z.1, Im.stab tup _ _ _ z.2.1 fun b hb xs eb _ => ?_, z.2.2⟩
        rw [upd_ne (fun q => by obtain ⟨o, ho⟩ := (z.2.2 b hb).2; exact (h4 a ha).2 o (by rw [← q]; exact ho))]
        exact eb
      | lkd d1 =>
        obtain ⟨b, od, u1, z1, z2, z3, z4⟩ := z
        refine ⟨b, od, u1, z1, z2, by rw [upd_ne (fun q => by rw [q, e] at z3; cases z3; exact hm)]; exact z3, ?_⟩
        rcases z4 with ⟨kvs, ps, y1, y2, y3, y4⟩ | ⟨kvs, ps, y1, y2, y3, y4⟩
        · exact .inl ⟨kvs, ps, y1, y2, y3, ImA.stab tup _ _ _ y4 fun b hb => absurd hb List.not_mem_nil⟩
        · exact .inr ⟨kvs, ps, y1, y2, y3, ImA.stab tup _ _ _ y4 fun b hb => absurd hb List.not_mem_nil⟩
  · have back : ∀ (j : Nat) (d1 : PyData), (ρ.set i (.own d'))[j]? = some (.own d1) → ∃ d2, ρ[j]? = some (.own d2) := fun j d1 ej => by
      rw [List.getElem?_set] at ej
      by_cases hij : i = j
      · subst hij; exact ⟨d, hi⟩
      · rw [if_neg hij] at ej; exact ⟨d1, ej⟩
    obtain ⟨d2, ej⟩ := back j d1 ej
    obtain ⟨d3, ek⟩ := back k e1 ek
    exact h.dis j k d2 d3 hjk ej ek
theorem ST.write (h : ST K T Bs po ρ φ σ H n) {i : Nat} {a : Addr} {d d' : PyData} {vs vs' : List V} (hi : ρ[i]? = some (.own d)) (hv : σ[i]? = some (some (.ref a))) (ha : a ∈ φ i) (e : H a = some (.lst vs)) (hn : Im K (upd H a (.lst vs')) (.ref a) d' (φ i)) :
    ST K T Bs po (ρ.set i (.own d')) φ σ (upd H a (.lst vs')) n ∧ Tpk K H (upd H a (.lst vs')) := h.writeM hi hv ha e trivial hn
end
section
variable {K : PySem.W.Frag} {T : List (Addr × Str)} {ρ : List Sl}
variable {α β γ δ : Type} [Enc α] [Enc β] [Enc γ] [Enc δ]
variable {R B S S2 : Type} [Enc R] {C : Option Addr → Prop}
/-! ## statements -/
def RB (K : PySem.W.Frag) (T : List (Addr × Str)) (C : Option Addr → Prop) (t : TS) (ρ : List Sl) {R B S : Type} [Enc R] (m : M (Ctl R B S)) (ρn : S → List Sl) (ρb : B → List Sl) : Prop :=
  ∀ (Bs : Addr → HO → Prop) (po : Option Addr), C po → ∀ (σ : L2.St) (H : Hp) (n : Nat), STe K T Bs po ρ σ H n → ∀ P : Ctl R B S → Nat → Prop, m n P → ∀ D : Ends,
    (∀ s n' σ' H' Bs', P (.nxt s) n' → Sub Bs Bs' → STe K T Bs' po (ρn s) σ' H' n' → Tpk K H H' → D.nx σ' H') →
    (∀ b n' σ' H' Bs', P (.brk b) n' → Sub Bs Bs' → STe K T Bs' po (ρb b) σ' H' n' → Tpk K H H' → D.bk σ' H') →
    (∀ r n' v H' fp, P (.ret r) n' → Tabs T H' → (∀ b o, Bs b o → H' b = some o) → (∀ a, po = some a → Pot H' a n') → Tpk K H H' → Im K H' v (enc r) fp → fp.Nodup → (∀ b ∈ fp, po ≠ some b ∧ ∀ o, ¬ Bs b o) → D.rt v H') → t D σ H
def Tpk.refl {H : Hp} : Tpk K H H := fun _ _ h => h
theorem Tpk.trans {H H1 H2 : Hp} (a : Tpk K H H1) (b : Tpk K H1 H2) : Tpk K H H2 := fun x xs h => b x xs (a x xs h)
variable {ρn : S → List Sl} {ρb : B → List Sl}
/-- what is behind a step -/
theorem RB.go {t : TS} {m : M (Ctl R B S)} (h : RB K T C t ρ m ρn ρb) {Bs Bs1 : Addr → HO → Prop} {po : Option Addr} (hC : C po) {σ : L2.St} {H0 H : Hp} {n : Nat} (st : STe K T Bs1 po ρ σ H n) {P : Ctl R B S → Nat → Prop} (p : m n P) {D : Ends} (sub : Sub Bs Bs1) (tp : Tpk K H0 H)
    (h1 : ∀ s n' σ' H' Bs', P (.nxt s) n' → Sub Bs Bs' → STe K T Bs' po (ρn s) σ' H' n' → Tpk K H0 H' → D.nx σ' H') (h2 : ∀ b n' σ' H' Bs', P (.brk b) n' → Sub Bs Bs' → STe K T Bs' po (ρb b) σ' H' n' → Tpk K H0 H' → D.bk σ' H')
    (h3 : ∀ r n' v H' fp, P (.ret r) n' → Tabs T H' → (∀ b o, Bs b o → H' b = some o) → (∀ a, po = some a → Pot H' a n') → Tpk K H0 H' → Im K H' v (enc r) fp → fp.Nodup → (∀ b ∈ fp, po ≠ some b ∧ ∀ o, ¬ Bs b o) → D.rt v H') : t D σ H :=
  h Bs1 po hC σ H n st P p D (fun s n' σ' H' Bs' p' sb st' tp' => h1 s n' σ' H' Bs' p' (fun b o z => sb b o (sub b o z)) st' (tp.trans tp')) (fun s n' σ' H' Bs' p' sb st' tp' => h2 s n' σ' H' Bs' p' (fun b o z => sb b o (sub b o z)) st' (tp.trans tp'))
    fun r n' v H' fp p' tb bs pt tp' im nd hf => h3 r n' v H' fp p' tb (fun b o z => bs b o (sub b o z)) pt (tp.trans tp') im nd fun b hb => ⟨(hf b hb).1, fun o z => (hf b hb).2 o (sub b o z)⟩
theorem rb_asg {te : TE} {g : TG} {tu : TS} {ts : List Nat} {m : M α} {k : α → M (Ctl R B S)} {ρ2 : α → List Sl} (he : RE K T te ρ true m) (hg : ∀ a, RG K T ts g a ρ (ρ2 a)) (hu : ∀ a, RB K T C tu (ρ2 a) (k a) ρn ρb) : RB K T C (tSeq (tAsg te g) tu) ρ (bindW m k) ρn ρb :=
  fun Bs po hC σ H n ⟨φ, st⟩ P p D h1 h2 h3 => he Bs po φ σ H n st _ p _ fun a n1 v H1 fp pa a1 im f => by
    have st1 := st.af a1
    refine hg a Bs po φ σ H1 n1 st1 v fp im (f.2 rfl).1 (fun b hb => ⟨f.1 b hb, st.fresh_bs ((f.2 rfl).2 b hb), fun j e ej => st.fresh_own ((f.2 rfl).2 b hb) ej⟩) _ fun σ' φ' st2 _ _ => ?_
    exact (hu a).go (Bs := Bs) hC ⟨φ', st2⟩ pa (fun b o z => z) a1.fr.tup h1 h2 h3
/-- a, b = x, y -/
theorem rb_par {t1 t2 : TE} {tu : TS} {i j : Nat} {m1 : M α} {m2 : M β} {k : α → β → M (Ctl R B S)} {ρ2 : α → β → List Sl} (ha : RE K T t1 ρ true m1) (hb : RE K T t2 ρ true m2) (hi : i < ρ.length) (hj : j < ρ.length) (hij : i ≠ j) (e : ∀ a b, (ρ.set i (.own (enc a))).set j (.own (enc b)) = ρ2 a b)
    (hu : ∀ a b, RB K T C tu (ρ2 a b) (k a b) ρn ρb) : RB K T C (tSeq (tPar i j (tCons t1 (tCons t2 tNil))) tu) ρ (b2W m1 m2 k) ρn ρb :=
  fun Bs po hC σ H n ⟨φ, st⟩ P p D h1 h2 h3 => ha Bs po φ σ H n st _ p _ fun a n1 v H1 fp pa a1 i1 g1 => hb Bs po φ σ H1 n1 (st.af a1) _ pa _ fun b n2 w H2 fq pb a2 i2 g2 => by
    have a12 := a1.trans a2
    have st2 := st.af a12
    have i1' := i1.af g1.1 a2.fr
    have g2' := Fp.back a1.fr g2
    have st3 := st2.put hi i1' (g1.2 rfl).1 (st.fresh_new g1 i).2
    have st4 := st3.put (i := j) (by rw [List.length_set]; exact hj) i2 (g2.2 rfl).1 fun c hc => by
      obtain ⟨z1, z2, z3⟩ := (st.fresh_new g2' j).2 c hc
      refine ⟨z1, z2, fun l d hl el => ?_⟩
      show c ∉ (if l = i then fp else φ l)
      by_cases hli : l = i
      · rw [if_pos hli]
        intro z
        obtain ⟨x, hx, hm⟩ := Im.mtb _ _ _ i1 c z
        obtain ⟨ps, q⟩ := (g2.2 rfl).2 c hc _ hx
        exact hm.tbl ps q
      · rw [if_neg hli]
        rw [List.getElem?_set, if_neg (Ne.symm hli)] at el
        exact z3 l d hl el
    rw [e a b] at st4
    exact ⟨v, w, rfl, (hu a b).go (Bs := Bs) hC ⟨_, st4⟩ pb (fun b o z => z) a12.fr.tup h1 h2 h3⟩
/-- xs.append(e) -/
theorem rb_append [Pu α] {te : TE} {tu : TS} {i : Nat} {xs : Lst α} {m : M α} {k : α → M (Ctl R B S)} {ρ2 : α → List Sl} {f : Bool} (hi : ρ[i]? = some (.own (enc xs))) (he : RE K T te ρ f m) (e : ∀ a, ρ.set i (.own (enc (⟨xs.l ++ [a]⟩ : Lst α))) = ρ2 a) (hu : ∀ a, RB K T C tu (ρ2 a) (k a) ρn ρb) :
    RB K T C (tSeq (tDrop (tBM K "list" rAppend (tVar i) (tCons te tNil))) tu) ρ (bindW m fun a => reqW (xs.l.length < sizeLine) (k a)) ρn ρb := fun Bs po hC σ H n ⟨φ, st⟩ P p D h1 h2 h3 => by
  obtain ⟨v, e1, e2, e3, e4⟩ := st.sl i _ hi
  obtain ⟨a, vs, fq, rfl, hT, hA, eφ⟩ := im_lst e2
  refine ⟨_, e1, .inl ⟨rfl, vs, .inl (.inl hT)⟩, he Bs po φ σ H n st _ p _ fun x n1 w H1 fp pa a1 im g => ?_⟩
  have z := Pu.pu im
  subst z
  have z := ima_pu hA
  subst z
  have st1 := st.af a1
  have ha : a ∈ φ i := by rw [eφ]; exact List.mem_cons_self
  have hT1 := a1.fr.keep a _ (e4 a ha).1 hT fun ps z => nomatch z
  have hA1 := hA.af (po := po) (fun b hb => absurd hb List.not_mem_nil) a1.fr
  have hl := hA.len
  rw [List.length_map] at hl
  refine ⟨a, vs, w, rfl, rfl, hT1, by rw [hl]; exact pa.1, ?_⟩
  have tup : ∀ b xs, TupR H1 b xs → TupR (upd H1 a (.lst (vs ++ [w]))) b xs := fun b xs z => by
    unfold TupR at z ⊢
    rw [upd_ne (fun q => by rw [q, hT1] at z; cases z)]
    exact z
  obtain ⟨st2, tp⟩ := st1.write (d' := enc (⟨xs.l ++ [x]⟩ : Lst α)) (vs' := vs ++ [w]) hi e1 ha hT1 (by
    rw [eφ]
    refine .lst upd_same ?_ rfl
    show ImA K _ (vs ++ [w]) ((xs.l ++ [x]).map enc) []
    rw [List.map_append]
    exact ImA.stab tup _ _ _ (hA1.app (.cons im .nil rfl)) fun b hb => absurd hb List.not_mem_nil)
  rw [e x] at st2
  exact (hu x).go (Bs := Bs) hC ⟨φ, st2⟩ pa.2 (fun b o z => z) (Tpk.trans a1.fr.tup tp) h1 h2 h3
/-- return e -/
theorem rb_ret {te : TE} {tu : TS} {m : M R} (he : RE K T te ρ true m) : RB K T C (tSeq (tRet te) tu) ρ (bindW m fun r => retW (.ret r)) ρn ρb := fun Bs po hC σ H n ⟨φ, st⟩ P p D h1 h2 h3 =>
  he Bs po φ σ H n st _ p _ fun a n1 v H1 fp pa a1 im g => by
    have st1 := st.af a1
    exact h3 a n1 v H1 fp pa st1.tabs (fun b o z => (st1.base b o z).1) st1.pot a1.fr.tup im (g.2 rfl).1 fun b hb => ⟨g.1 b hb, st.fresh_bs ((g.2 rfl).2 b hb)⟩
theorem rb_end {s : S} (h : RhoLe (ρn s) ρ) : RB K T C tNext ρ (retW (.nxt s) : M (Ctl R B S)) ρn ρb := fun Bs po hC σ H n ⟨φ, st⟩ P p D h1 h2 h3 => h1 s n σ H Bs p (fun _ _ z => z) ⟨φ, st.le h⟩ Tpk.refl
/-- never come to -/
theorem rb_dead {tu : TS} : RB K T C (tSeq (fun _ _ _ => False) tu) ρ (fun _ _ => False : M (Ctl R B S)) ρn ρb := fun Bs po hC σ H n st P p D h1 h2 h3 => p.elim
theorem rb_freeze {t : TS} {i : Nat} {d : PyData} {m : M (Ctl R B S)} {ρ2 : List Sl} (hi : ρ[i]? = some (.own d)) (e : ρ.set i (.bor d) = ρ2) (h : RB K T C t ρ2 m ρn ρb) : RB K T C t ρ m ρn ρb := fun Bs po hC σ H n ⟨φ, st⟩ P p D h1 h2 h3 => by
  have st2 := st.freeze hi
  rw [e] at st2
  exact h.go (Bs := Bs) hC ⟨φ, st2⟩ p (fun b o z => .inl z) Tpk.refl h1 h2 h3
def seqW (m : M (Ctl R B S)) (k : S → M (Ctl R B S2)) : M (Ctl R B S2) := fun n P => m n fun c n' => match c with
  | .nxt s => k s n' P
  | .ret r => P (.ret r) n'
  | .brk b => P (.brk b) n'
theorem rb_if {c : TT} {tA tB tu : TS} {mc : M Bool} {mA mB : M (Ctl R B S2)} {ρ1 : S2 → List Sl} {k : S2 → M (Ctl R B S)} (hc : RT K T c ρ mc) (hA : RB K T C tA ρ mA ρ1 ρb) (hB : RB K T C tB ρ mB ρ1 ρb) (hu : ∀ s, RB K T C tu (ρ1 s) (k s) ρn ρb) :
    RB K T C (tSeq (tIfS c tA tB) tu) ρ (bindW mc fun b => seqW (if b = true then mA else mB) k) ρn ρb := fun Bs po hC σ H n ⟨φ, st⟩ P p D h1 h2 h3 => hc Bs po φ σ H n st _ p _ fun b n1 H1 pa a1 => by
  have key : ∀ {t : TS} {m : M (Ctl R B S2)}, RB K T C t ρ m ρ1 ρb → (seqW m k) n1 P → t { D with nx := fun σ' H' => tu D σ' H' } σ H1 := fun {t m} ht pm =>
    ht.go (Bs := Bs) hC ⟨φ, st.af a1⟩ (P := fun c n' => match c with | .nxt s => k s n' P | .ret r => P (.ret r) n' | .brk b => P (.brk b) n') pm (fun _ _ z => z) a1.fr.tup
      (fun s n' σ' H' Bs' p' sb st' tp' => (hu s).go (Bs := Bs) hC st' p' sb tp' h1 h2 h3) h2 h3
  cases b with
  | true => exact (if_pos rfl).mpr (key hA pa)
  | false => exact (if_neg (by decide)).mpr (key hB pa)
def forW0 {α : Type} (f : α → S → M (Ctl R S S)) : List α → S → M (Ctl R B S)
  | [], s => retW (.nxt s)
  | x :: xs, s => fun n P => f x s n fun c n' => match c with
    | .nxt s' => forW0 f xs s' n' P
    | .ret r => P (.ret r) n'
    | .brk s' => P (.nxt s') n'
omit [Enc R] in
theorem forW_ex {α : Type} (f : α → S → M (Ctl R S S)) : ∃ g : List α → S → M (Ctl R B S), (∀ s, g [] s = retW (.nxt s)) ∧ ∀ x xs s, g (x :: xs) s = fun n P => f x s n fun c n' => match c with
    | .nxt s' => g xs s' n' P
    | .ret r => P (.ret r) n'
    | .brk s' => P (.nxt s') n' := ⟨forW0 f, fun _ => rfl, fun _ _ _ => rfl⟩
/-- sealed: it isn't gone through of itself -/
noncomputable def forW {α : Type} (f : α → S → M (Ctl R S S)) : List α → S → M (Ctl R B S) := Classical.choose (forW_ex f)
omit [Enc R] in
theorem forW_nil {α : Type} {f : α → S → M (Ctl R S S)} {s : S} : (forW f [] s : M (Ctl R B S)) = retW (.nxt s) := (Classical.choose_spec (forW_ex f)).1 s
omit [Enc R] in
theorem forW_cons {α : Type} {f : α → S → M (Ctl R S S)} {x : α} {xs : List α} {s : S} : (forW f (x :: xs) s : M (Ctl R B S)) = fun n P => f x s n fun c n' => match c with
    | .nxt s' => forW f xs s' n' P
    | .ret r => P (.ret r) n'
    | .brk s' => P (.nxt s') n' := (Classical.choose_spec (forW_ex f)).2 x xs s
theorem rb_for {wi : TI} {g : TG} {tb tu : TS} {ts : List Nat} {mi : M (List α)} {s0 : S2} {f : α → S2 → M (Ctl R S2 S2)} {k : S2 → M (Ctl R B S)} {ρl : S2 → List Sl} {ρx : α → S2 → List Sl} (hi : RI K T wi ρ mi) (h0 : RhoLe (ρl s0) ρ) (hg : ∀ a s, RG K T ts g a (ρl s) (ρx a s))
    (hb : ∀ a s, RB K T C tb (ρx a s) (f a s) ρl ρl) (hu : ∀ s, RB K T C tu (ρl s) (k s) ρn ρb) : RB K T C (tSeq (tFor wi g tb) tu) ρ (bindW mi fun xs => seqW (forW f xs s0) k) ρn ρb := fun Bs po hC σ H n ⟨φ, st⟩ P p D h1 h2 h3 =>
  hi Bs po φ σ H n st _ p _ fun xs n1 J H1 fi pa a1 ok hfp hfi => by
    obtain ⟨⟨G, Y, w, g0, gs, gy⟩, hlst⟩ := ok
    have st1 := (st.af a1).le h0
    -- the lists gone through stand, too
    have st2 : ST K T (fun b o => Bs b o ∨ (b ∈ fi ∧ H1 b = some o)) po (ρl s0) φ σ H1 n1 := by
      refine ⟨st1.tabs, fun b o z => ?_, st1.pot, st1.len, fun i s e => ?_, st1.dis⟩
      · rcases z with z | ⟨z, e⟩
        · exact st1.base b o z
        · obtain ⟨l, hl⟩ := hlst b z
          rw [e] at hl
          cases hl
          exact ⟨e, fun ps q => (by cases q), hfp b z⟩
      · have z := st1.sl i s e
        cases s with
        | any => trivial
        | pot => exact z
        | scr ns => obtain ⟨a, z1, z2⟩ := z; exact ⟨a, z1, z2.elim (fun ⟨o, q1, q2⟩ => .inl ⟨o, .inl q1, q2⟩) .inr⟩
        | lkd d => exact z
        | borA v' fq d => exact ⟨z.1, z.2.1, fun b hb => ⟨(z.2.2 b hb).1, let ⟨o, q⟩ := (z.2.2 b hb).2; ⟨o, .inl q⟩⟩⟩
        | bor d => obtain ⟨v, z1, z2, z3⟩ := z; exact ⟨v, z1, z2, fun b hb => ⟨(z3 b hb).1, let ⟨o, q⟩ := (z3 b hb).2; ⟨o, .inl q⟩⟩⟩
        | own d =>
          obtain ⟨v, z1, z2, z3, z4⟩ := z
          refine ⟨v, z1, z2, z3, fun b hb => ⟨(z4 b hb).1, fun o q => ?_⟩⟩
          rcases q with q | ⟨q, _⟩
          · exact (z4 b hb).2 o q
          · rcases hfi b q with ⟨o', z'⟩ | z'
            · exact (z4 b hb).2 o' z'
            · obtain ⟨t, ht, hle⟩ := h0.get e
              cases hle
              exact st.fresh_own z' ht hb
    refine for_it w (fun i σ' H' => ∃ (s : S2) (n' : Nat) (Bs' : Addr → HO → Prop), Sub (fun b o => Bs b o ∨ (b ∈ fi ∧ H1 b = some o)) Bs' ∧ STe K T Bs' po (ρl s) σ' H' n' ∧ G H' ∧ Tpk K H1 H' ∧ (forW f (xs.drop i) s : M (Ctl R B S2)) n' (fun c n' => match c with | .nxt s => k s n' P | .ret r => P (.ret r) n' | .brk b => P (.brk b) n')) ⟨s0, n1, _, fun _ _ z => z, ⟨φ, st2⟩, g0, Tpk.refl, by rw [List.drop_zero]; exact pa⟩ (fun i σ' H' _ z => by obtain ⟨_, _, _, _, _, z, _⟩ := z; exact z) ?_ ?_
    · rintro i x σ' HA HB hi' ⟨s, n', Bs', sub, ⟨φ', st'⟩, gA, tpA, pl⟩ hy
      obtain ⟨a, ha, sAB, imx⟩ := gy i HA x HB hi' gA hy
      have stB := st'.af (Af.same sAB)
      have hdr : xs.drop i = a :: xs.drop (i + 1) := by
        rw [List.drop_eq_getElem_cons hi']
        congr 1
        exact Option.some.inj ((List.getElem?_eq_getElem hi').symm.trans ha)
      rw [hdr, forW_cons] at pl
      refine hg a s Bs' po φ' σ' HB n' stB x [] imx List.nodup_nil (fun b hb => absurd hb List.not_mem_nil) _ fun σ2 φ2 stx _ _ => ?_
      have subB : Sub Bs Bs' := fun b o z => sub b o (.inl z)
      have tpAB : Tpk K H HB := Tpk.trans (Tpk.trans a1.fr.tup tpA) fun _ _ e => sAB _ _ e
      -- what goes on holds the lists as they were
      have keep : ∀ (Bs2 : Addr → HO → Prop) (s2 : S2) σ3 HC n3, Sub Bs' Bs2 → STe K T Bs2 po (ρl s2) σ3 HC n3 → Tpk K HB HC → G HC := fun Bs2 s2 σ3 HC n3 sb ⟨φ3, st3⟩ tp3 => by
        refine gs HA HC (fun b hb l e => ?_) (fun b l e => tp3 b l (sAB _ _ e)) (fun b hb => ?_) gA
        · obtain ⟨l', hl'⟩ := hlst b hb
          have z1 := (st'.base b _ (sub b _ (.inr ⟨hb, hl'⟩))).1
          rw [e] at z1
          have z2 : l = l' := by injection z1 with z1; injection z1
          have z3 := (st3.base b _ (sb b _ (sub b _ (.inr ⟨hb, hl'⟩)))).1
          rw [z2]
          exact z3
        · obtain ⟨l', hl'⟩ := hlst b hb
          exact ⟨l', hl', (st'.base b _ (sub b _ (.inr ⟨hb, hl'⟩))).1⟩
      refine (hb a s).go (Bs := Bs') hC ⟨φ2, stx⟩ pl (fun _ _ z => z) (Tpk.refl) (fun s2 n2 σ3 H3 Bs3 p3 sb3 st3 tp3 => ?_) (fun s2 n2 σ3 H3 Bs3 p3 sb3 st3 tp3 => ?_) fun r n2 v H3 fp p3 tb bs pt tp3 im nd hf => ?_
      · exact ⟨s2, n2, Bs3, fun b o z => sb3 b o (sub b o z), st3, keep Bs3 s2 σ3 H3 n2 sb3 st3 tp3, Tpk.trans tpA (Tpk.trans (fun _ _ e => sAB _ _ e) tp3), p3⟩
      · exact (hu s2).go (Bs := Bs) hC st3 p3 (fun b o z => sb3 b o (subB b o z)) (Tpk.trans tpAB tp3) h1 h2 h3
      · exact h3 r n2 v H3 fp p3 tb (fun b o z => bs b o (subB b o z)) pt (Tpk.trans tpAB tp3) im nd fun b hb => ⟨(hf b hb).1, fun o z => (hf b hb).2 o (subB b o z)⟩
    · rintro σ' HA ⟨s, n', Bs', sub, st', gA, tpA, pl⟩
      rw [List.drop_length, forW_nil] at pl
      exact (hu s).go (Bs := Bs) hC st' pl (fun b o z => sub b o (.inl z)) (Tpk.trans a1.fr.tup tpA) h1 h2 h3
/-- a pot is made: what is drawn is drawn from it -/
def NoPot : List Sl → Prop
  | [] => True
  | .pot :: _ => False
  | _ :: ss => NoPot ss
theorem NoPot.get : ∀ {ρ : List Sl}, NoPot ρ → ∀ i : Nat, ρ[i]? = some Sl.pot → False
  | [], _, i, e => by cases e
  | s :: ss, h, 0, e => by
    obtain rfl : s = Sl.pot := Option.some.inj e
    exact h
  | s :: ss, h, i + 1, e => by
    have : NoPot ss := by cases s <;> first | exact h | exact h.elim
    exact NoPot.get this i e
theorem ST.unpot {Bs : Addr → HO → Prop} {po : Option Addr} {ρ : List Sl} {φ : Nat → List Addr} {σ : L2.St} {H : Hp} {n n2 : Nat} (h : ST K T Bs po ρ φ σ H n) (hp : NoPot ρ) : ST K T Bs none ρ φ σ H n2 where
  tabs := h.tabs
  base := fun b o z => ⟨(h.base b o z).1, (h.base b o z).2.1, by simp⟩
  pot := fun a e => nomatch e
  len := h.len
  sl := fun i s e => by
    have z := h.sl i s e
    cases s with
    | any => trivial
    | pot => exact (hp.get i e).elim
    | scr ns => exact z
    | lkd d => obtain ⟨a, od, u, z1, z2, z3⟩ := z; exact ⟨a, od, u, z1, by simp, z3⟩
    | borA v' fq d => exact ⟨z.1, z.2.1, fun b hb => ⟨by simp, (z.2.2 b hb).2⟩⟩
    | bor d => obtain ⟨v, z1, z2, z3⟩ := z; exact ⟨v, z1, z2, fun b hb => ⟨by simp, (z3 b hb).2⟩⟩
    | own d => obtain ⟨v, z1, z2, z3, z4⟩ := z; exact ⟨v, z1, z2, z3, fun b hb => ⟨by simp, (z4 b hb).2⟩⟩
  dis := h.dis
def potW {R B S : Type} (c : Prop) (m : M (Ctl R B S)) : M (Ctl R B S) := fun n P => c ∧ m 0 fun x _ => P x n
theorem rb_newpot {te : TE} {tu : TS} {i : Nat} {c : Prop} {m : M (Ctl R B S)} {ρ2 : List Sl} (he : ∀ (Bs : Addr → HO → Prop) (φ : Nat → List Addr) (σ : L2.St) (H : Hp) (n : Nat), ST K T Bs none ρ φ σ H n → c → ∀ Q : VK, (∀ a H', Same H H' → H a = none → Pot H' a 0 → Q (.ref a) H') → te σ H Q)
    (hi : i < ρ.length) (h0 : NoPot ρ) (e : ρ.set i .pot = ρ2) (hu : RB K T (fun _ => True) tu ρ2 m ρn ρb) (hn : ∀ s, NoPot (ρn s)) (hb : ∀ s, NoPot (ρb s)) : RB K T (fun po => po = none) (tSeq (tAsg te (gName i)) tu) ρ (potW c m) ρn ρb :=
  fun Bs po hC σ H n ⟨φ, st⟩ P p D h1 h2 h3 => by
    subst hC
    refine he Bs φ σ H n st p.1 _ fun a H' s na pt => ?_
    have st1 := st.af (Af.same s (n := n))
    have fa : Fsh H a := fun o e => by rw [na] at e; cases e
    have st2 : ST K T Bs (some a) ρ2 φ (σ.set i (some (.ref a))) H' 0 := by
      subst e
      refine ⟨st1.tabs, fun b o z => ⟨(st1.base b o z).1, (st1.base b o z).2.1, fun w => st.fresh_bs fa o (by rw [Option.some.inj w]; exact z)⟩, fun b w => by rw [← Option.some.inj w]; exact pt, by rw [List.length_set, List.length_set, st1.len], fun j x ej => ?_, fun j k d1 d2 hjk ej ek => ?_⟩
      · rw [List.getElem?_set] at ej ⊢
        by_cases hij : i = j
        · subst hij
          rw [if_pos rfl, if_pos hi] at ej
          obtain rfl := Option.some.inj ej
          rw [if_pos rfl, if_pos (by rw [st1.len]; exact hi)]
          exact ⟨a, rfl, rfl⟩
        · rw [if_neg hij] at ej ⊢
          have z := st1.sl j x ej
          cases x with
          | any => trivial
          | pot => exact (h0.get j ej).elim
          | scr ns => exact z
          | borA v' fq d => exact ⟨z.1, z.2.1, fun b hb => ⟨fun w => by obtain ⟨o, q⟩ := (z.2.2 b hb).2; exact st.fresh_bs fa o (by rw [Option.some.inj w]; exact q), (z.2.2 b hb).2⟩⟩
          | lkd d =>
            obtain ⟨b, od, u, z1, z2, z3, z4⟩ := z
            have hne : (some a : Option Addr) ≠ some b := fun w => by
              obtain ⟨x, y, z, hH, _⟩ := pt
              rw [Option.some.inj w, z3] at hH
              cases hH
            exact ⟨b, od, u, z1, hne, z3, z4⟩
          | bor d =>
            obtain ⟨v, z1, z2, z3⟩ := z
            exact ⟨v, z1, z2, fun b hb => ⟨fun w => by obtain ⟨o, q⟩ := (z3 b hb).2; exact st.fresh_bs fa o (by rw [Option.some.inj w]; exact q), (z3 b hb).2⟩⟩
          | own d =>
            obtain ⟨v, z1, z2, z3, z4⟩ := z
            exact ⟨v, z1, z2, z3, fun b hb => ⟨fun w => st.fresh_own fa ej (by rw [Option.some.inj w]; exact hb), (z4 b hb).2⟩⟩
      · rw [List.getElem?_set] at ej ek
        by_cases hij : i = j
        · rw [if_pos hij] at ej; split at ej <;> cases ej
        · rw [if_neg hij] at ej
          by_cases hik : i = k
          · rw [if_pos hik] at ek; split at ek <;> cases ek
          · rw [if_neg hik] at ek
            exact st1.dis j k d1 d2 hjk ej ek
    have tp : Tpk K H H' := fun _ _ z => s _ _ z
    refine hu Bs (some a) trivial _ H' 0 ⟨φ, st2⟩ _ p.2 D (fun s' n' σ' H'' Bs' p' sb ⟨φ', st'⟩ tp' => ?_) (fun s' n' σ' H'' Bs' p' sb ⟨φ', st'⟩ tp' => ?_) fun r n' v H'' fp p' tb bs pt' tp' im nd hf => ?_
    · exact h1 s' n σ' H'' Bs' p' sb ⟨φ', st'.unpot (hn s')⟩ (Tpk.trans tp tp')
    · exact h2 s' n σ' H'' Bs' p' sb ⟨φ', st'.unpot (hb s')⟩ (Tpk.trans tp tp')
    · exact h3 r n v H'' fp p' tb bs (fun a z => nomatch z) (Tpk.trans tp tp') im nd fun b hb => ⟨by simp, (hf b hb).2⟩
theorem re_lenS {i : Nat} {ns : List Int} (hi : ρ[i]? = some (.scr ns)) : RE K T (tCB (fun xs H Q => ∃ p ys, xs = [.ref p] ∧ (SqL K H p ys ∨ SqT K H p ys) ∧ Q (.int ys.length) H) (tCons (tVar i) tNil)) ρ true (retW ns.length) := fun Bs po φ σ H n st P p Q q => by
  obtain ⟨a, h1, h2⟩ := st.sl i _ hi
  have hS : SqL K H a (ns.map V.int) := by
    rcases h2 with ⟨o, z1, z2⟩ | z
    · have := (st.base a o z1).1
      rcases z2 with rfl | ⟨w, rfl⟩
      · exact .inl (.inl this)
      · exact .inl (.inr ⟨w, this⟩)
    · exact .inr z
  exact ⟨_, h1, a, _, rfl, .inl hS, q _ n _ H [] p Af.refl (by rw [List.length_map]; exact .int _) Fp.nil⟩
theorem scr_sql {Bs : Addr → HO → Prop} {po : Option Addr} {ρ : List Sl} {φ : Nat → List Addr} {σ : L2.St} {H : Hp} {n i : Nat} {ns : List Int} (st : ST K T Bs po ρ φ σ H n) (hi : ρ[i]? = some (.scr ns)) : ∃ a, σ[i]? = some (some (.ref a)) ∧ SqL K H a (ns.map V.int) := by
  obtain ⟨a, h1, h2⟩ := st.sl i _ hi
  refine ⟨a, h1, ?_⟩
  rcases h2 with ⟨o, z1, z2⟩ | z
  · have := (st.base a o z1).1
    rcases z2 with rfl | ⟨w, rfl⟩
    · exact .inl (.inl this)
    · exact .inl (.inr ⟨w, this⟩)
  · exact .inr z
/-! ### a def from its start on -/
def outW {R B S : Type} (m : M (Ctl R B S)) : M R := fun n P => m n fun c n' => match c with
  | .ret r => P r n'
  | _ => False
def PSl (K : PySem.W.Frag) {α : Type} [Enc α] (s : α → Sl) : Prop := ∀ (Bs : Addr → HO → Prop) (po : Option Addr) (H : Hp) (a : α) (v : V) (fp : List Addr), Im K H v (enc a) fp → (∀ b ∈ fp, po ≠ some b ∧ ∃ o, Bs b o) → SlOk K Bs po H (some (some v)) (s a) fp ∧ ∀ d, s a = .own d → fp = []
theorem psl_own [Pu α] : PSl K (fun a : α => .own (enc a)) := fun Bs po H a v fp im h => by
  have z := Pu.pu im
  subst z
  exact ⟨⟨v, rfl, im, List.nodup_nil, fun b hb => absurd hb List.not_mem_nil⟩, fun _ _ => rfl⟩
theorem psl_bor : PSl K (fun a : α => .bor (enc a)) := fun Bs po H a v fp im h => ⟨⟨v, rfl, im, h⟩, fun d e => nomatch e⟩
theorem st_start {Bs : Addr → HO → Prop} {po : Option Addr} {H : Hp} {n : Nat} {N : List Str} {ss : List Sl} {vs : List V} {fps : List (List Addr)} {ρ : List Sl} (tb : Tabs T H) (hb : ∀ b o, Bs b o → H b = some o ∧ (∀ ps, o ≠ .tbl ps) ∧ po ≠ some b) (hp : ∀ a, po = some a → Pot H a n)
    (hl : vs.length = ss.length) (hs : ∀ i s, ss[i]? = some s → SlOk K Bs po H (vs[i]?.map some) s (fps.getD i [])) (ho : ∀ i d, ss[i]? = some (.own d) → fps.getD i [] = []) (e : ss ++ List.replicate (N.length - ss.length) Sl.any = ρ) : ST K T Bs po ρ (fun i => fps.getD i []) (L2.start N vs) H n := by
  subst e
  have get : ∀ i s, (ss ++ List.replicate (N.length - ss.length) Sl.any)[i]? = some s → ss[i]? = some s ∨ s = Sl.any := fun i s h => by
    by_cases hi : i < ss.length
    · rw [List.getElem?_append_left hi] at h
      exact .inl h
    · rw [List.getElem?_append_right (by omega)] at h
      exact .inr (List.eq_of_mem_replicate (List.mem_of_getElem? h))
  refine ⟨tb, hb, hp, ?_, fun i s h => ?_, fun i j d e hij ei ej => ?_⟩
  · unfold L2.start
    rw [List.length_append, List.length_append, List.length_map, List.length_replicate, List.length_replicate, hl]
  · rcases get i s h with h | rfl
    · have hi := (List.getElem?_eq_some_iff.mp h).1
      have e : (L2.start N vs)[i]? = vs[i]?.map some := by
        unfold L2.start
        rw [List.getElem?_append_left (by rw [List.length_map, hl]; exact hi), List.getElem?_map]
      rw [e]
      exact hs i s h
    · trivial
  · rcases get i _ ei with h | h
    · rw [ho i d h]
      exact fun b hb => absurd hb List.not_mem_nil
    · cases h
/-- what a def tells at its end, nothing drawn -/
theorem end_pure {t : TS} {ρ : List Sl} {mB : M (Ctl R B S)} {H : Hp} {σ : L2.St} {Q : VK} {D : Ends} {P0 : R → Nat → Prop} (hr : RB K T C t ρ mB ρn ρb) (hC : C none) (hD : D.rt = Q)
    (st : STe K T (fun b o => H b = some o ∧ ∀ ps, o ≠ .tbl ps) none ρ σ H 0) (h : outW mB 0 P0) (hq : ∀ r c v' H' fp, P0 r c → Af K T none H 0 H' 0 → Im K H' v' (enc r) fp → fp.Nodup → (∀ b ∈ fp, Fsh H b) → Q v' H') : t D σ H := by
  refine hr _ none hC σ H 0 st _ h D (fun s n' σ' H' Bs' p => p.elim) (fun s n' σ' H' Bs' p => p.elim) fun r n' v H' fp p tb bs pt tp im nd hf => ?_
  rw [hD]
  refine hq r n' v H' fp p ⟨⟨fun b o _ e t => bs b o ⟨e, t⟩, tp⟩, fun _ => tb, fun a z => nomatch z⟩ im nd fun b hb o e => ?_
  by_cases z : ∃ ps, o = .tbl ps
  · exact z
  · exact ((hf b hb).2 o ⟨e, fun ps q => z ⟨ps, q⟩⟩).elim
theorem end_pot {t : TS} {ρ : List Sl} {mB : M (Ctl R B S)} {H : Hp} {σ : L2.St} {Q : VK} {D : Ends} {q : Addr} {n : Nat} {P0 : R → Nat → Prop} (hr : RB K T C t ρ mB ρn ρb) (hC : C (some q)) (hD : D.rt = Q)
    (st : STe K T (fun b o => H b = some o ∧ (∀ ps, o ≠ .tbl ps) ∧ b ≠ q) (some q) ρ σ H n) (h : outW mB n P0) (hq : ∀ r n' v' H' fp, P0 r n' → Af K T (some q) H n H' n' → Im K H' v' (enc r) fp → fp.Nodup → (∀ b ∈ fp, b ≠ q ∧ Fsh H b) → Q v' H') : t D σ H := by
  refine hr _ (some q) hC σ H n st _ h D (fun s n' σ' H' Bs' p => p.elim) (fun s n' σ' H' Bs' p => p.elim) fun r n' v H' fp p tb bs pt tp im nd hf => ?_
  rw [hD]
  refine hq r n' v H' fp p ⟨⟨fun b o hb e t => bs b o ⟨e, t, fun z => hb (by rw [z])⟩, tp⟩, fun _ => tb, fun a z _ => pt a z⟩ im nd fun b hb => ⟨fun w => (hf b hb).1 (by rw [w]), fun o e => ?_⟩
  by_cases z : ∃ ps, o = .tbl ps
  · exact z
  · exact ((hf b hb).2 o ⟨e, fun ps q => z ⟨ps, q⟩, fun w => (hf b hb).1 (by rw [w])⟩).elim
end
end Bf
namespace Bf
open PySem PySem.Spec PyProof.Rows L2 LamX NdefX
section
variable {K : PySem.W.Frag} {T : List (Addr × Str)} {ρ : List Sl}
theorem lists_bs {H : Hp} {v : V} {d : PyData} {fp : List Addr} (h : Im K H v d fp) : ∀ b ∈ fp, (none : Option Addr) ≠ some b ∧ ∃ o, H b = some o ∧ ∀ ps, o ≠ .tbl ps := fun b hb => by
  obtain ⟨l, hl, hm⟩ := Im.mtb _ _ _ h b hb
  exact ⟨by simp, _, hl, hm.tbl⟩
theorem lists_bp {H : Hp} {v : V} {d : PyData} {fp : List Addr} {q : Addr} (h : Im K H v d fp) (hq : ∀ b ∈ fp, b ≠ q) : ∀ b ∈ fp, some q ≠ some b ∧ ∃ o, H b = some o ∧ (∀ ps, o ≠ .tbl ps) ∧ b ≠ q := fun b hb => by
  obtain ⟨l, hl, hm⟩ := Im.mtb _ _ _ h b hb
  exact ⟨fun e => hq b hb (Option.some.inj e).symm, _, hl, hm.tbl, hq b hb⟩
theorem keep_pot {H H' : Hp} {n : Nat} {a : Addr} {c c' : Nat} (af : Af K T none H c H' c') (z : Pot H a n) : Pot H' a n := by
  obtain ⟨x, y, w, e, h⟩ := z
  exact ⟨x, y, w, af.fr.keep a _ (by simp) e (fun ps q => nomatch q), h⟩
def c1W {α1 R : Type} (m1 : M α1) (g : α1 → M R) : M R := fun n P => m1 n fun a1 n1 => g a1 n1 P
def c2W {α1 α2 R : Type} (m1 : M α1) (m2 : M α2) (g : α1 → α2 → M R) : M R := fun n P => m1 n fun a1 n1 => m2 n1 fun a2 n2 => g a1 a2 n2 P
def c3W {α1 α2 α3 R : Type} (m1 : M α1) (m2 : M α2) (m3 : M α3) (g : α1 → α2 → α3 → M R) : M R := fun n P => m1 n fun a1 n1 => m2 n1 fun a2 n2 => m3 n2 fun a3 n3 => g a1 a2 a3 n3 P
def c4W {α1 α2 α3 α4 R : Type} (m1 : M α1) (m2 : M α2) (m3 : M α3) (m4 : M α4) (g : α1 → α2 → α3 → α4 → M R) : M R := fun n P => m1 n fun a1 n1 => m2 n1 fun a2 n2 => m3 n2 fun a3 n3 => m4 n3 fun a4 n4 => g a1 a2 a3 a4 n4 P
def spP0 (K : PySem.W.Frag) (T : List (Addr × Str)) {R : Type}  [Enc R] (f : M R) : Sp := fun vs H Q _ => ∃ (q : Addr) (n : Nat)  , vs = [.ref q] ∧ (True) ∧ Tabs T H ∧ Pot H q n ∧ ∃ P0 : R → Nat → Prop, f  n P0 ∧ ∀ r n' v' H' fp, P0 r n' → Af K T (some q) H n H' n' → Im K H' v' (enc r) fp → fp.Nodup → (∀ b ∈ fp, b ≠ q ∧ Fsh H b) → Q v' H'
theorem spP0_len {R : Type}  [Enc R] {f : M R} {vs : List V} {H : Hp} {Q : VK} {E : XK} (h : spP0 K T f vs H Q E) : vs.length = 1 := by
  obtain ⟨q, n, rfl, _⟩ := h
  rfl
theorem p0_run {R : Type}  [Enc R] {B S : Type} {N : List Str}  {ρ : List Sl} (e : [Sl.pot] ++ List.replicate (N.length - 1) Sl.any = ρ ) {t : TS} {mB : M (Ctl R B S)} {ρn : S → List Sl} {ρb : B → List Sl} {C : Option Addr → Prop} (hC : ∀ q, C (some q)) (hr : RB K T C t (ρ ) (mB ) ρn ρb)
    {vs : List V} {H : Hp} {Q : VK} {E : XK} (h : spP0 K T (outW (mB )) vs H Q E) : t { nx := fun _ H' => Q .non H', rt := Q } (L2.start N vs) H := by
  obtain ⟨q, n, rfl, _, tb, pp, P0, h, hq⟩ := h
  refine end_pot (hr ) (hC q) rfl ⟨_, st_start (ss := [Sl.pot]) (fps := [[]]) tb (fun b o z => ⟨z.1, z.2.1, fun w => z.2.2 (Option.some.inj w).symm⟩) (fun a z => by rw [← Option.some.inj z]; exact pp) rfl (fun i s hi => ?_) (fun i d hi => ?_) (e )⟩ h hq
  · match i, hi with
    | 0, hi =>
      obtain rfl := Option.some.inj hi
      exact ⟨q, rfl, rfl⟩
    | i + 1, hi => cases hi
  · match i, hi with
    | 0, hi => cases hi
    | i + 1, hi => cases hi
theorem re_callp0 {R : Type}  [Enc R] {f : M R} {E : XK} {ip : Nat} (hpot : ρ[ip]? = some .pot)  : RE K T (tCall (spP0 K T f) [] E (tCons (tVar ip) tNil)) ρ true f := fun Bs po φ σ H n st P p Q q =>
  let ⟨u, e1, e2⟩ := st.sl ip _ hpot
  ⟨_, e2,
  ⟨u, n, rfl, trivial, st.tabs, st.pot u e1, _, p, fun r c v' H' fp pr af im nd hf => q r c v' H' fp pr ((by rw [e1]; exact af)) im (⟨fun b hb => by rw [e1]; exact fun z => (hf b hb).1 (Option.some.inj z).symm, fun _ => ⟨nd, fun b hb => (hf b hb).2⟩⟩)⟩⟩
def spW1 (K : PySem.W.Frag) (T : List (Addr × Str)) {α1 R : Type} [Enc α1] [Enc R] (f : α1 → M R) : Sp := fun vs H Q _ => ∃ (a1 : α1) (v1 : V) (f1 : List Addr), vs = [v1] ∧ (Im K H v1 (enc a1) f1) ∧ Tabs T H ∧ ∃ P0 : R → Nat → Prop, f a1 0 P0 ∧ ∀ r c v' H' fp, P0 r c → Af K T none H 0 H' 0 → Im K H' v' (enc r) fp → fp.Nodup → (∀ b ∈ fp, Fsh H b) → Q v' H'
theorem spW1_len {α1 R : Type} [Enc α1] [Enc R] {f : α1 → M R} {vs : List V} {H : Hp} {Q : VK} {E : XK} (h : spW1 K T f vs H Q E) : vs.length = 1 := by
  obtain ⟨a1, v1, f1, rfl, _⟩ := h
  rfl
theorem w1_run {α1 R : Type} [Enc α1] [Enc R] {B S : Type} {N : List Str} {s1 : α1 → Sl} (p1 : PSl K s1) {ρ : α1 → List Sl} (e : ∀ a1, [s1 a1] ++ List.replicate (N.length - 1) Sl.any = ρ a1) {t : TS} {mB : α1 → M (Ctl R B S)} {ρn : S → List Sl} {ρb : B → List Sl} {C : Option Addr → Prop} (hC : C none) (hr : ∀ a1, RB K T C t (ρ a1) (mB a1) ρn ρb)
    {vs : List V} {H : Hp} {Q : VK} {E : XK} (h : spW1 K T (fun a1 => outW (mB a1)) vs H Q E) : t { nx := fun _ H' => Q .non H', rt := Q } (L2.start N vs) H := by
  obtain ⟨a1, v1, f1, rfl, i1, tb, P0, h, hq⟩ := h
  refine end_pure (hr a1) hC rfl ⟨_, st_start (ss := [s1 a1]) (fps := [f1]) tb (fun b o z => ⟨z.1, z.2, by simp⟩) (fun a z => nomatch z) rfl (fun i s hi => ?_) (fun i d hi => ?_) (e a1)⟩ h hq
  · match i, hi with
    | 0, hi =>
      obtain rfl := Option.some.inj hi
      exact (p1 _ _ _ _ _ _ i1 (lists_bs i1)).1
    | i + 1, hi => cases hi
  · match i, hi with
    | 0, hi => exact (p1 (fun b o => H b = some o ∧ ∀ ps, o ≠ .tbl ps) none H _ _ _ i1 (lists_bs i1)).2 _ (Option.some.inj hi)
    | i + 1, hi => cases hi
theorem re_call1 {α1 R : Type} [Enc α1] [Enc R] {f : α1 → M R} {E : XK} {t1 : TE} {m1 : M α1} {b1 : Bool} (h1 : RE K T t1 ρ b1 m1) : RE K T (tCall (spW1 K T f) [] E (tCons t1 tNil)) ρ true (c1W m1 fun a1 => pureW (f a1)) := fun Bs po φ σ H n st P p Q q =>
  h1 Bs po φ σ H n st _ p _ fun a1 n1 v1 H1 f1 p1 x1 i1 g1 =>
  ⟨_, _, _, rfl, i1, (st.af x1).tabs, _, p1, fun r c v' H' fp pr af im nd hf => q r n1 v' H' fp pr (Af.trans x1 ⟨Fr.weak af.fr, af.tabs, fun a e z => keep_pot af z⟩) im (Fp.back x1.fr ⟨fun b hb => (st.af x1).fresh_pot (hf b hb), fun _ => ⟨nd, hf⟩⟩)⟩
def spP1 (K : PySem.W.Frag) (T : List (Addr × Str)) {α1 R : Type} [Enc α1] [Enc R] (f : α1 → M R) : Sp := fun vs H Q _ => ∃ (q : Addr) (n : Nat) (a1 : α1) (v1 : V) (f1 : List Addr), vs = [.ref q, v1] ∧ (Im K H v1 (enc a1) f1 ∧ (∀ b ∈ f1, b ≠ q)) ∧ Tabs T H ∧ Pot H q n ∧ ∃ P0 : R → Nat → Prop, f a1 n P0 ∧ ∀ r n' v' H' fp, P0 r n' → Af K T (some q) H n H' n' → Im K H' v' (enc r) fp → fp.Nodup → (∀ b ∈ fp, b ≠ q ∧ Fsh H b) → Q v' H'
theorem re_callp1 {α1 R : Type} [Enc α1] [Enc R] {f : α1 → M R} {E : XK} {ip : Nat} (hpot : ρ[ip]? = some .pot) {t1 : TE} {m1 : M α1} {b1 : Bool} (h1 : RE K T t1 ρ b1 m1) : RE K T (tCall (spP1 K T f) [] E (tCons (tVar ip) (tCons t1 tNil))) ρ true (c1W m1 f) := fun Bs po φ σ H n st P p Q q =>
  let ⟨u, e1, e2⟩ := st.sl ip _ hpot
  ⟨_, e2,
  h1 Bs po φ σ H n st _ p _ fun a1 n1 v1 H1 f1 p1 x1 i1 g1 =>
  ⟨u, n1, _, _, _, rfl, ⟨i1, fun b hb z => g1.1 b hb (by rw [z]; exact e1)⟩, (st.af x1).tabs, (st.af x1).pot u e1, _, p1, fun r c v' H' fp pr af im nd hf => q r c v' H' fp pr (Af.trans x1 (by rw [e1]; exact af)) im (Fp.back x1.fr ⟨fun b hb => by rw [e1]; exact fun z => (hf b hb).1 (Option.some.inj z).symm, fun _ => ⟨nd, fun b hb => (hf b hb).2⟩⟩)⟩⟩
def spP2 (K : PySem.W.Frag) (T : List (Addr × Str)) {α1 α2 R : Type} [Enc α1] [Enc α2] [Enc R] (f : α1 → α2 → M R) : Sp := fun vs H Q _ => ∃ (q : Addr) (n : Nat) (a1 : α1) (a2 : α2) (v1 v2 : V) (f1 f2 : List Addr), vs = [.ref q, v1, v2] ∧ (Im K H v1 (enc a1) f1 ∧ Im K H v2 (enc a2) f2 ∧ (∀ b ∈ f1, b ≠ q) ∧ (∀ b ∈ f2, b ≠ q)) ∧ Tabs T H ∧ Pot H q n ∧ ∃ P0 : R → Nat → Prop, f a1 a2 n P0 ∧ ∀ r n' v' H' fp, P0 r n' → Af K T (some q) H n H' n' → Im K H' v' (enc r) fp → fp.Nodup → (∀ b ∈ fp, b ≠ q ∧ Fsh H b) → Q v' H'
theorem spP2_len {α1 α2 R : Type} [Enc α1] [Enc α2] [Enc R] {f : α1 → α2 → M R} {vs : List V} {H : Hp} {Q : VK} {E : XK} (h : spP2 K T f vs H Q E) : vs.length = 3 := by
  obtain ⟨q, n, a1, a2, v1, v2, f1, f2, rfl, _⟩ := h
  rfl
theorem p2_run {α1 α2 R : Type} [Enc α1] [Enc α2] [Enc R] {B S : Type} {N : List Str} {s1 : α1 → Sl} (p1 : PSl K s1) {s2 : α2 → Sl} (p2 : PSl K s2) {ρ : α1 → α2 → List Sl} (e : ∀ a1 a2, [Sl.pot, s1 a1, s2 a2] ++ List.replicate (N.length - 3) Sl.any = ρ a1 a2) {t : TS} {mB : α1 → α2 → M (Ctl R B S)} {ρn : S → List Sl} {ρb : B → List Sl} {C : Option Addr → Prop} (hC : ∀ q, C (some q)) (hr : ∀ a1 a2, RB K T C t (ρ a1 a2) (mB a1 a2) ρn ρb)
    {vs : List V} {H : Hp} {Q : VK} {E : XK} (h : spP2 K T (fun a1 a2 => outW (mB a1 a2)) vs H Q E) : t { nx := fun _ H' => Q .non H', rt := Q } (L2.start N vs) H := by
  obtain ⟨q, n, a1, a2, v1, v2, f1, f2, rfl, ⟨i1, i2, j1, j2⟩, tb, pp, P0, h, hq⟩ := h
  refine end_pot (hr a1 a2) (hC q) rfl ⟨_, st_start (ss := [Sl.pot, s1 a1, s2 a2]) (fps := [[], f1, f2]) tb (fun b o z => ⟨z.1, z.2.1, fun w => z.2.2 (Option.some.inj w).symm⟩) (fun a z => by rw [← Option.some.inj z]; exact pp) rfl (fun i s hi => ?_) (fun i d hi => ?_) (e a1 a2)⟩ h hq
  · match i, hi with
    | 0, hi =>
      obtain rfl := Option.some.inj hi
      exact ⟨q, rfl, rfl⟩
    | 1, hi =>
      obtain rfl := Option.some.inj hi
      exact (p1 _ _ _ _ _ _ i1 (lists_bp i1 j1)).1
    | 2, hi =>
      obtain rfl := Option.some.inj hi
      exact (p2 _ _ _ _ _ _ i2 (lists_bp i2 j2)).1
    | i + 3, hi => cases hi
  · match i, hi with
    | 0, hi => cases hi
    | 1, hi => exact (p1 (fun b o => H b = some o ∧ (∀ ps, o ≠ .tbl ps) ∧ b ≠ q) (some q) H _ _ _ i1 (lists_bp i1 j1)).2 _ (Option.some.inj hi)
    | 2, hi => exact (p2 (fun b o => H b = some o ∧ (∀ ps, o ≠ .tbl ps) ∧ b ≠ q) (some q) H _ _ _ i2 (lists_bp i2 j2)).2 _ (Option.some.inj hi)
    | i + 3, hi => cases hi
theorem re_callp2 {α1 α2 R : Type} [Enc α1] [Enc α2] [Enc R] {f : α1 → α2 → M R} {E : XK} {ip : Nat} (hpot : ρ[ip]? = some .pot) {t1 : TE} {m1 : M α1} {b1 : Bool} (h1 : RE K T t1 ρ b1 m1) {t2 : TE} {m2 : M α2} {b2 : Bool} (h2 : RE K T t2 ρ b2 m2) : RE K T (tCall (spP2 K T f) [] E (tCons (tVar ip) (tCons t1 (tCons t2 tNil)))) ρ true (c2W m1 m2 f) := fun Bs po φ σ H n st P p Q q =>
  let ⟨u, e1, e2⟩ := st.sl ip _ hpot
  ⟨_, e2,
  h1 Bs po φ σ H n st _ p _ fun a1 n1 v1 H1 f1 p1 x1 i1 g1 =>
  h2 Bs po φ σ H1 n1 (st.af x1) _ p1 _ fun a2 n2 v2 H2 f2 p2 x2 i2 g2 =>
  ⟨u, n2, _, _, _, _, _, _, rfl, ⟨(i1.af g1.1 x2.fr), i2, fun b hb z => g1.1 b hb (by rw [z]; exact e1), fun b hb z => g2.1 b hb (by rw [z]; exact e1)⟩, ((st.af x1).af x2).tabs, ((st.af x1).af x2).pot u e1, _, p2, fun r c v' H' fp pr af im nd hf => q r c v' H' fp pr (Af.trans (Af.trans x1 x2) (by rw [e1]; exact af)) im (Fp.back (Af.trans x1 x2).fr ⟨fun b hb => by rw [e1]; exact fun z => (hf b hb).1 (Option.some.inj z).symm, fun _ => ⟨nd, fun b hb => (hf b hb).2⟩⟩)⟩⟩
def spW3 (K : PySem.W.Frag) (T : List (Addr × Str)) {α1 α2 α3 R : Type} [Enc α1] [Enc α2] [Enc α3] [Enc R] (f : α1 → α2 → α3 → M R) : Sp := fun vs H Q _ => ∃ (a1 : α1) (a2 : α2) (a3 : α3) (v1 v2 v3 : V) (f1 f2 f3 : List Addr), vs = [v1, v2, v3] ∧ (Im K H v1 (enc a1) f1 ∧ Im K H v2 (enc a2) f2 ∧ Im K H v3 (enc a3) f3) ∧ Tabs T H ∧ ∃ P0 : R → Nat → Prop, f a1 a2 a3 0 P0 ∧ ∀ r c v' H' fp, P0 r c → Af K T none H 0 H' 0 → Im K H' v' (enc r) fp → fp.Nodup → (∀ b ∈ fp, Fsh H b) → Q v' H'
theorem spW3_len {α1 α2 α3 R : Type} [Enc α1] [Enc α2] [Enc α3] [Enc R] {f : α1 → α2 → α3 → M R} {vs : List V} {H : Hp} {Q : VK} {E : XK} (h : spW3 K T f vs H Q E) : vs.length = 3 := by
  obtain ⟨a1, a2, a3, v1, v2, v3, f1, f2, f3, rfl, _⟩ := h
  rfl
theorem w3_run {α1 α2 α3 R : Type} [Enc α1] [Enc α2] [Enc α3] [Enc R] {B S : Type} {N : List Str} {s1 : α1 → Sl} (p1 : PSl K s1) {s2 : α2 → Sl} (p2 : PSl K s2) {s3 : α3 → Sl} (p3 : PSl K s3) {ρ : α1 → α2 → α3 → List Sl} (e : ∀ a1 a2 a3, [s1 a1, s2 a2, s3 a3] ++ List.replicate (N.length - 3) Sl.any = ρ a1 a2 a3) {t : TS} {mB : α1 → α2 → α3 → M (Ctl R B S)} {ρn : S → List Sl} {ρb : B → List Sl} {C : Option Addr → Prop} (hC : C none) (hr : ∀ a1 a2 a3, RB K T C t (ρ a1 a2 a3) (mB a1 a2 a3) ρn ρb)
    {vs : List V} {H : Hp} {Q : VK} {E : XK} (h : spW3 K T (fun a1 a2 a3 => outW (mB a1 a2 a3)) vs H Q E) : t { nx := fun _ H' => Q .non H', rt := Q } (L2.start N vs) H := by
  obtain ⟨a1, a2, a3, v1, v2, v3, f1, f2, f3, rfl, ⟨i1, i2, i3⟩, tb, P0, h, hq⟩ := h
  refine end_pure (hr a1 a2 a3) hC rfl ⟨_, st_start (ss := [s1 a1, s2 a2, s3 a3]) (fps := [f1, f2, f3]) tb (fun b o z => ⟨z.1, z.2, by simp⟩) (fun a z => nomatch z) rfl (fun i s hi => ?_) (fun i d hi => ?_) (e a1 a2 a3)⟩ h hq
  · match i, hi with
    | 0, hi =>
      obtain rfl := Option.some.inj hi
      exact (p1 _ _ _ _ _ _ i1 (lists_bs i1)).1
    | 1, hi =>
      obtain rfl := Option.some.inj hi
      exact (p2 _ _ _ _ _ _ i2 (lists_bs i2)).1
    | 2, hi =>
      obtain rfl := Option.some.inj hi
      exact (p3 _ _ _ _ _ _ i3 (lists_bs i3)).1
    | i + 3, hi => cases hi
  · match i, hi with
    | 0, hi => exact (p1 (fun b o => H b = some o ∧ ∀ ps, o ≠ .tbl ps) none H _ _ _ i1 (lists_bs i1)).2 _ (Option.some.inj hi)
    | 1, hi => exact (p2 (fun b o => H b = some o ∧ ∀ ps, o ≠ .tbl ps) none H _ _ _ i2 (lists_bs i2)).2 _ (Option.some.inj hi)
    | 2, hi => exact (p3 (fun b o => H b = some o ∧ ∀ ps, o ≠ .tbl ps) none H _ _ _ i3 (lists_bs i3)).2 _ (Option.some.inj hi)
    | i + 3, hi => cases hi
theorem re_call3 {α1 α2 α3 R : Type} [Enc α1] [Enc α2] [Enc α3] [Enc R] {f : α1 → α2 → α3 → M R} {E : XK} {t1 : TE} {m1 : M α1} {b1 : Bool} (h1 : RE K T t1 ρ b1 m1) {t2 : TE} {m2 : M α2} {b2 : Bool} (h2 : RE K T t2 ρ b2 m2) {t3 : TE} {m3 : M α3} {b3 : Bool} (h3 : RE K T t3 ρ b3 m3) : RE K T (tCall (spW3 K T f) [] E (tCons t1 (tCons t2 (tCons t3 tNil)))) ρ true (c3W m1 m2 m3 fun a1 a2 a3 => pureW (f a1 a2 a3)) := fun Bs po φ σ H n st P p Q q =>
  h1 Bs po φ σ H n st _ p _ fun a1 n1 v1 H1 f1 p1 x1 i1 g1 =>
  h2 Bs po φ σ H1 n1 (st.af x1) _ p1 _ fun a2 n2 v2 H2 f2 p2 x2 i2 g2 =>
  h3 Bs po φ σ H2 n2 ((st.af x1).af x2) _ p2 _ fun a3 n3 v3 H3 f3 p3 x3 i3 g3 =>
  ⟨_, _, _, _, _, _, _, _, _, rfl, ⟨((i1.af g1.1 x2.fr).af g1.1 x3.fr), (i2.af g2.1 x3.fr), i3⟩, (((st.af x1).af x2).af x3).tabs, _, p3, fun r c v' H' fp pr af im nd hf => q r n3 v' H' fp pr (Af.trans (Af.trans (Af.trans x1 x2) x3) ⟨Fr.weak af.fr, af.tabs, fun a e z => keep_pot af z⟩) im (Fp.back (Af.trans (Af.trans x1 x2) x3).fr ⟨fun b hb => (((st.af x1).af x2).af x3).fresh_pot (hf b hb), fun _ => ⟨nd, hf⟩⟩)⟩
def spW4 (K : PySem.W.Frag) (T : List (Addr × Str)) {α1 α2 α3 α4 R : Type} [Enc α1] [Enc α2] [Enc α3] [Enc α4] [Enc R] (f : α1 → α2 → α3 → α4 → M R) : Sp := fun vs H Q _ => ∃ (a1 : α1) (a2 : α2) (a3 : α3) (a4 : α4) (v1 v2 v3 v4 : V) (f1 f2 f3 f4 : List Addr), vs = [v1, v2, v3, v4] ∧ (Im K H v1 (enc a1) f1 ∧ Im K H v2 (enc a2) f2 ∧ Im K H v3 (enc a3) f3 ∧ Im K H v4 (enc a4) f4) ∧ Tabs T H ∧ ∃ P0 : R → Nat → Prop, f a1 a2 a3 a4 0 P0 ∧ ∀ r c v' H' fp, P0 r c → Af K T none H 0 H' 0 → Im K H' v' (enc r) fp → fp.Nodup → (∀ b ∈ fp, Fsh H b) → Q v' H'
theorem spW4_len {α1 α2 α3 α4 R : Type} [Enc α1] [Enc α2] [Enc α3] [Enc α4] [Enc R] {f : α1 → α2 → α3 → α4 → M R} {vs : List V} {H : Hp} {Q : VK} {E : XK} (h : spW4 K T f vs H Q E) : vs.length = 4 := by
  obtain ⟨a1, a2, a3, a4, v1, v2, v3, v4, f1, f2, f3, f4, rfl, _⟩ := h
  rfl
theorem w4_run {α1 α2 α3 α4 R : Type} [Enc α1] [Enc α2] [Enc α3] [Enc α4] [Enc R] {B S : Type} {N : List Str} {s1 : α1 → Sl} (p1 : PSl K s1) {s2 : α2 → Sl} (p2 : PSl K s2) {s3 : α3 → Sl} (p3 : PSl K s3) {s4 : α4 → Sl} (p4 : PSl K s4) {ρ : α1 → α2 → α3 → α4 → List Sl} (e : ∀ a1 a2 a3 a4, [s1 a1, s2 a2, s3 a3, s4 a4] ++ List.replicate (N.length - 4) Sl.any = ρ a1 a2 a3 a4) {t : TS} {mB : α1 → α2 → α3 → α4 → M (Ctl R B S)} {ρn : S → List Sl} {ρb : B → List Sl} {C : Option Addr → Prop} (hC : C none) (hr : ∀ a1 a2 a3 a4, RB K T C t (ρ a1 a2 a3 a4) (mB a1 a2 a3 a4) ρn ρb)
    {vs : List V} {H : Hp} {Q : VK} {E : XK} (h : spW4 K T (fun a1 a2 a3 a4 => outW (mB a1 a2 a3 a4)) vs H Q E) : t { nx := fun _ H' => Q .non H', rt := Q } (L2.start N vs) H := by
  obtain ⟨a1, a2, a3, a4, v1, v2, v3, v4, f1, f2, f3, f4, rfl, ⟨i1, i2, i3, i4⟩, tb, P0, h, hq⟩ := h
  refine end_pure (hr a1 a2 a3 a4) hC rfl ⟨_, st_start (ss := [s1 a1, s2 a2, s3 a3, s4 a4]) (fps := [f1, f2, f3, f4]) tb (fun b o z => ⟨z.1, z.2, by simp⟩) (fun a z => nomatch z) rfl (fun i s hi => ?_) (fun i d hi => ?_) (e a1 a2 a3 a4)⟩ h hq
  · match i, hi with
    | 0, hi =>
      obtain rfl := Option.some.inj hi
      exact (p1 _ _ _ _ _ _ i1 (lists_bs i1)).1
    | 1, hi =>
      obtain rfl := Option.some.inj hi
      exact (p2 _ _ _ _ _ _ i2 (lists_bs i2)).1
    | 2, hi =>
      obtain rfl := Option.some.inj hi
      exact (p3 _ _ _ _ _ _ i3 (lists_bs i3)).1
    | 3, hi =>
      obtain rfl := Option.some.inj hi
      exact (p4 _ _ _ _ _ _ i4 (lists_bs i4)).1
    | i + 4, hi => cases hi
  · match i, hi with
    | 0, hi => exact (p1 (fun b o => H b = some o ∧ ∀ ps, o ≠ .tbl ps) none H _ _ _ i1 (lists_bs i1)).2 _ (Option.some.inj hi)
    | 1, hi => exact (p2 (fun b o => H b = some o ∧ ∀ ps, o ≠ .tbl ps) none H _ _ _ i2 (lists_bs i2)).2 _ (Option.some.inj hi)
    | 2, hi => exact (p3 (fun b o => H b = some o ∧ ∀ ps, o ≠ .tbl ps) none H _ _ _ i3 (lists_bs i3)).2 _ (Option.some.inj hi)
    | 3, hi => exact (p4 (fun b o => H b = some o ∧ ∀ ps, o ≠ .tbl ps) none H _ _ _ i4 (lists_bs i4)).2 _ (Option.some.inj hi)
    | i + 4, hi => cases hi
theorem re_call4 {α1 α2 α3 α4 R : Type} [Enc α1] [Enc α2] [Enc α3] [Enc α4] [Enc R] {f : α1 → α2 → α3 → α4 → M R} {E : XK} {t1 : TE} {m1 : M α1} {b1 : Bool} (h1 : RE K T t1 ρ b1 m1) {t2 : TE} {m2 : M α2} {b2 : Bool} (h2 : RE K T t2 ρ b2 m2) {t3 : TE} {m3 : M α3} {b3 : Bool} (h3 : RE K T t3 ρ b3 m3) {t4 : TE} {m4 : M α4} {b4 : Bool} (h4 : RE K T t4 ρ b4 m4) : RE K T (tCall (spW4 K T f) [] E (tCons t1 (tCons t2 (tCons t3 (tCons t4 tNil))))) ρ true (c4W m1 m2 m3 m4 fun a1 a2 a3 a4 => pureW (f a1 a2 a3 a4)) := fun Bs po φ σ H n st P p Q q =>
  h1 Bs po φ σ H n st _ p _ fun a1 n1 v1 H1 f1 p1 x1 i1 g1 =>
  h2 Bs po φ σ H1 n1 (st.af x1) _ p1 _ fun a2 n2 v2 H2 f2 p2 x2 i2 g2 =>
  h3 Bs po φ σ H2 n2 ((st.af x1).af x2) _ p2 _ fun a3 n3 v3 H3 f3 p3 x3 i3 g3 =>
  h4 Bs po φ σ H3 n3 (((st.af x1).af x2).af x3) _ p3 _ fun a4 n4 v4 H4 f4 p4 x4 i4 g4 =>
  ⟨_, _, _, _, _, _, _, _, _, _, _, _, rfl, ⟨(((i1.af g1.1 x2.fr).af g1.1 x3.fr).af g1.1 x4.fr), ((i2.af g2.1 x3.fr).af g2.1 x4.fr), (i3.af g3.1 x4.fr), i4⟩, ((((st.af x1).af x2).af x3).af x4).tabs, _, p4, fun r c v' H' fp pr af im nd hf => q r n4 v' H' fp pr (Af.trans (Af.trans (Af.trans (Af.trans x1 x2) x3) x4) ⟨Fr.weak af.fr, af.tabs, fun a e z => keep_pot af z⟩) im (Fp.back (Af.trans (Af.trans (Af.trans x1 x2) x3) x4).fr ⟨fun b hb => ((((st.af x1).af x2).af x3).af x4).fresh_pot (hf b hb), fun _ => ⟨nd, hf⟩⟩)⟩
end
end Bf
namespace Bf
open PySem PySem.Spec PyProof.Rows L2 LamX NdefX
/-! ### who is between -/
end Bf
namespace Bf
open PySem PySem.Spec PyProof.Rows L2 LamX NdefX
/-! ### the tree through a hand -/
end Bf
namespace Bf
open PySem PySem.Spec PyProof.Rows L2 LamX NdefX
end Bf
namespace Bf
open PySem PySem.Spec PyProof.Rows L2 LamX NdefX
theorem ps_dead {X : Cx} {st : Stmt} : PS X st (fun _ _ _ => False) := ⟨fun _ _ _ _ _ _ h => h.elim⟩
/-- a def that is called -/
structure CalF (P : Program) (w : World) (K : PySem.W.Frag) (mg : Str → Option Value) (base : Heap) (k : Nat) (x : Str) (f : Addr) (fd : FuncData) (ps : List Str) (sp : Sp) : Prop where
  G : FnOk P w K mg base CX0 k f fd ps sp
  kp : PySem.W.keepIn K (.ref f) = true
  b : Binds K fd ps []
  g : mg x = some (.ref f)
structure CalG (P : Program) (w : World) (K : PySem.W.Frag) (mg : Str → Option Value) (base : Heap) (k : Nat) (x : Str) (f : Addr) (fd : FuncData) (ps : List Str) (sp : Sp) : Prop where
  G : FnG P w K mg base k f fd ps sp
  kp : PySem.W.keepIn K (.ref f) = true
  b : Binds K fd ps []
  g : mg x = some (.ref f)
/-- the built-ins are what they are -/
structure Bls (mg : Str → Option Value) : Prop where
  len : mg "len" = none
  tuple : mg "tuple" = none
  list : mg "list" = none
  range : mg "range" = none
  min : mg "min" = none
  max : mg "max" = none
  abs : mg "abs" = none
  int : mg "int" = none
  all : mg "all" = none
  any : mg "any" = none
  zip : mg "zip" = none
  enumerate : mg "enumerate" = none
  reversed : mg "reversed" = none
  repr : mg "repr" = none
  sorted : mg "sorted" = none
  sum : mg "sum" = none
  set : mg "set" = none
theorem FnG.imp {P : Program} {w : World} {K : PySem.W.Frag} {mg : Str → Option Value} {base : Heap} {k : Nat} {f : Addr} {fd : FuncData} {ps : List Str} {sp sp' : Sp} (F : FnG P w K mg base k f fd ps sp) (h : ∀ vs H Q E, sp' vs H Q E → sp vs H Q E) : FnG P w K mg base k f fd ps sp' :=
  ⟨fun vs H Q E q => F.len vs H Q E (h _ _ _ _ q), fun A outer s H args us vs Q E gd hr he hb hv hs => F.go A outer s H args us vs Q E gd hr he hb hv (h _ _ _ _ hs)⟩
theorem af_keeps {K : PySem.W.Frag} {T : List (Addr × Str)} {H H' : Hp} {q : Addr} {n n' : Nat} (pp : Pot H q n) (kk : Keeps q H H') (p' : Pot H' q n') : Af K T (some q) H n H' n' := by
  obtain ⟨l, hl⟩ := pot_lst pp
  exact ⟨Fr.keeps hl kk, fun tb => tabs_keeps pp tb kk, fun a e _ => by rw [← Option.some.inj e]; exact p'⟩
def takeW (size : Nat) : M Nat := fun n P => (0 < size ∧ size < 2305843009213693952 ∧ n < 100000) ∧ ∀ r, r < size → P r (n + 1)
def ofW {α : Type} (xs : Lst α) : M α := fun n P => (0 < xs.l.length ∧ xs.l.length < 1073741824 ∧ n < 100000) ∧ ∀ x, x ∈ xs.l → P x (n + 1)
theorem ima_mem {α : Type} [Enc α] [Pu α] {K : PySem.W.Frag} {H : Hp} : ∀ {xs : List α} {vs : List V} {fp : List Addr} {v : V}, ImA K H vs (xs.map enc) fp → v ∈ vs → ∃ x ∈ xs, Im K H v (enc x) []
  | [], _, _, _, h, m => by cases h; cases m
  | x :: xs, _, _, v, h, m => by
    cases h with
    | cons a b q =>
      rcases List.mem_cons.mp m with rfl | m
      · have := Pu.pu a
        subst this
        exact ⟨x, List.mem_cons_self, a⟩
      · obtain ⟨y, h1, h2⟩ := ima_mem b m
        exact ⟨y, List.mem_cons_of_mem _ h1, h2⟩
section
variable {K : PySem.W.Frag} {T : List (Addr × Str)} {ρ : List Sl}
variable {α β γ : Type} [Enc α] [Enc β] [Enc γ]
theorem nv_map (xs : List Nat) : nv xs = (xs.map fun (n : Nat) => (n : Int)).map V.int := by
  unfold nv
  rw [List.map_map]
  rfl
end
end Bf
namespace Bf
open PySem PySem.Spec PyProof.Rows L2 LamX NdefX
/-! ## a law -/
def spLaw (K : PySem.W.Frag) : Sp := fun vs H Q _ => ∃ (a : Addr) (ns : List Int), vs = [.ref a] ∧ SqL K H a (ns.map V.int) ∧ ns.length ≤ 63 ∧ ∀ H', Q (.bl true) H'
theorem spLaw_len {K : PySem.W.Frag} {vs : List V} {H : Hp} {Q : VK} {E : XK} (h : spLaw K vs H Q E) : vs.length = 1 := by
  obtain ⟨a, ns, rfl, _⟩ := h
  rfl
def spLawT (K : PySem.W.Frag) (T : List (Addr × Str)) : Sp := fun vs H Q _ => ∃ (a : Addr) (ns : List Int), vs = [.ref a] ∧ SqL K H a (ns.map V.int) ∧ ns.length ≤ 63 ∧ Tabs T H ∧ ∀ H', Q (.bl true) H'
theorem scr_ok {K : PySem.W.Frag} {H : Hp} {a : Addr} {vs : List V} (h : SqL K H a vs) : ScrOk K (fun b o => H b = some o ∧ ∀ ps, o ≠ .tbl ps) a vs := by
  rcases h with (h | ⟨o, h⟩) | h
  · exact .inl ⟨_, ⟨h, fun ps z => nomatch z⟩, .inl rfl⟩
  · exact .inl ⟨_, ⟨h, fun ps z => nomatch z⟩, .inr ⟨_, rfl⟩⟩
  · exact .inr h
theorem lawT_run {K : PySem.W.Frag} {T : List (Addr × Str)} {C : Option Addr → Prop} {B S : Type} {N : List Str} {ρ : List Int → List Sl} {t : TS} {mB : List Int → M (Ctl Bool B S)} {ρn : S → List Sl} {ρb : B → List Sl} (e : ∀ ns, [Sl.scr ns] ++ List.replicate (N.length - 1) Sl.any = ρ ns) (hC : C none) (hr : ∀ ns, RB K T C t (ρ ns) (mB ns) ρn ρb)
    {vs : List V} {H : Hp} {Q : VK} {E : XK} (h : spLawT K T vs H Q E) (win : ∀ ns : List Int, ns.length ≤ 63 → outW (mB ns) 0 fun r _ => r = true) : t { nx := fun _ H' => Q .non H', rt := Q } (L2.start N vs) H := by
  obtain ⟨a, ns, rfl, hS, hl, tb, fin⟩ := h
  refine end_pure (hr ns) hC rfl ⟨_, st_start (ss := [.scr ns]) (fps := [[]]) tb (fun b o z => ⟨z.1, z.2, by simp⟩) (fun a z => nomatch z) rfl (fun i s hi => ?_) (fun i d hi => ?_) (e ns)⟩ (win ns hl) fun r c v' H' fp hr af im _ _ => ?_
  · match i, hi with
    | 0, hi =>
      obtain rfl := Option.some.inj hi
      exact ⟨a, rfl, scr_ok hS⟩
    | i + 1, hi => cases hi
  · match i, hi with
    | 0, hi => cases hi
    | i + 1, hi => cases hi
  · subst hr
    cases im
    exact fin H'
theorem law_run {K : PySem.W.Frag} {T : List (Addr × Str)} {C : Option Addr → Prop} {B S : Type} {N : List Str} {ρ : List Int → List Sl} {t : TS} {mB : List Int → M (Ctl Bool B S)} {ρn : S → List Sl} {ρb : B → List Sl} (e : ∀ ns, [Sl.scr ns] ++ List.replicate (N.length - 1) Sl.any = ρ ns) (hC : C none) (hT : T = []) (hr : ∀ ns, RB K T C t (ρ ns) (mB ns) ρn ρb)
    {vs : List V} {H : Hp} {Q : VK} {E : XK} (h : spLaw K vs H Q E) (win : ∀ ns : List Int, ns.length ≤ 63 → outW (mB ns) 0 fun r _ => r = true) : t { nx := fun _ H' => Q .non H', rt := Q } (L2.start N vs) H := by
  obtain ⟨a, ns, rfl, hS, hl, fin⟩ := h
  subst hT
  exact lawT_run (E := fun _ _ _ => True) e hC hr ⟨a, ns, rfl, hS, hl, (fun p hp => absurd hp List.not_mem_nil), fin⟩ win
end Bf
namespace Bf
/-! ## what the words of pyw come to -/
section
variable {α β R B S : Type}
theorem drop_cons {xs : List α} {k : Nat} {y : α} {ys : List α} (e : xs.drop k = y :: ys) : xs[k]? = some y ∧ k < xs.length ∧ xs.drop (k + 1) = ys := by
  have hy : xs[k]? = some y := by
    have := congrArg (fun l => l[0]?) e
    simpa [List.getElem?_drop] using this
  refine ⟨hy, (List.getElem?_eq_some_iff.mp hy).1, ?_⟩
  rw [← List.drop_drop, e]
  rfl
theorem drop_nil {xs : List α} {k : Nat} (e : xs.drop k = []) (hk : k ≤ xs.length) : k = xs.length := by
  have := congrArg List.length e
  rw [List.length_drop] at this
  simp at this
  omega
theorem forW_inv {f : α → S → M (Ctl R S S)} {xs : List α} {s0 : S} {n0 : Nat} {P : Ctl R B S → Nat → Prop} (I : Nat → S → Nat → Prop) (h0 : I 0 s0 n0)
    (h : ∀ i a s n, xs[i]? = some a → I i s n → ∀ Q : Ctl R S S → Nat → Prop, (∀ s' n', I (i + 1) s' n' → Q (.nxt s') n') → (∀ r n', P (.ret r) n' → Q (.ret r) n') → (∀ s' n', P (.nxt s') n' → Q (.brk s') n') → f a s n Q) (he : ∀ s n, I xs.length s n → P (.nxt s) n) : (forW f xs s0 : M (Ctl R B S)) n0 P := by
  have key : ∀ (ys : List α) (k : Nat) (s : S) (n : Nat), xs.drop k = ys → k ≤ xs.length → I k s n → (forW f ys s : M (Ctl R B S)) n P := by
    intro ys
    induction ys with
    | nil =>
      intro k s n e hk i
      have := drop_nil e hk
      subst this
      rw [forW_nil]
      exact he s n i
    | cons y ys ih =>
      intro k s n e hk i
      rw [forW_cons]
      obtain ⟨hy, hk2, ey⟩ := drop_cons e
      exact h k y s n hy i _ (fun s' n' i' => ih (k + 1) s' n' ey hk2 i') (fun r n' p => p) fun s' n' p => p
  exact key xs 0 s0 n0 rfl (Nat.zero_le _) h0
/-- a loop that only goes on -/
theorem seq_for {S2 : Type} {f : α → S → M (Ctl R S S)} {xs : List α} {s0 : S} {n0 : Nat} {k : S → M (Ctl R B S2)} {P : Ctl R B S2 → Nat → Prop} (I : Nat → S → Nat → Prop) (h0 : I 0 s0 n0)
    (h : ∀ i a s n, xs[i]? = some a → I i s n → ∀ Q : Ctl R S S → Nat → Prop, (∀ s' n', I (i + 1) s' n' → Q (.nxt s') n') → f a s n Q) (he : ∀ s n, I xs.length s n → k s n P) : seqW (forW f xs s0) k n0 P := by
  unfold seqW
  refine forW_inv I h0 (fun i a s n e ii Q q1 q2 q3 => h i a s n e ii Q q1) ?_
  exact fun s n i => he s n i
theorem lcW_inv {mt : α → M Bool} {me : α → M β} {xs : List α} {n0 : Nat} {P : Lst β → Nat → Prop} (I : Nat → List β → Nat → Prop) (h0 : I 0 [] n0)
    (h : ∀ i a acc n, xs[i]? = some a → I i acc n → ∀ Q : List β → Nat → Prop, (∀ acc' n', I (i + 1) acc' n' → Q acc' n') → mt a n fun b n1 => if b = true then me a n1 fun y n2 => Q (acc ++ [y]) n2 else Q acc n1) (he : ∀ acc n, I xs.length acc n → P ⟨acc⟩ n) : lcW mt me xs [] n0 P := by
  have key : ∀ (ys : List α) (k : Nat) (acc : List β) (n : Nat), xs.drop k = ys → k ≤ xs.length → I k acc n → lcW mt me ys acc n P := by
    intro ys
    induction ys with
    | nil =>
      intro k s n e hk i
      have := drop_nil e hk
      subst this
      rw [lcW_nil]
      exact he s n i
    | cons y ys ih =>
      intro k acc n e hk i
      rw [lcW_cons]
      obtain ⟨hy, hk2, ey⟩ := drop_cons e
      have z := h k y acc n hy i (fun acc' n' => lcW mt me ys acc' n' P) fun acc' n' i' => ih (k + 1) acc' n' ey hk2 i'
      show mt y n fun b n1 => (if b = true then bindW (me y) fun z => lcW mt me ys (acc ++ [z]) else lcW mt me ys acc) n1 P
      have e2 : (fun (b : Bool) (n1 : Nat) => (if b = true then bindW (me y) fun z => lcW mt me ys (acc ++ [z]) else lcW mt me ys acc) n1 P) = fun b n1 => if b = true then me y n1 fun z n2 => lcW mt me ys (acc ++ [z]) n2 P else lcW mt me ys acc n1 P := by
        funext b n1
        cases b <;> rfl
      rw [e2]
      exact z
  exact key xs 0 [] n0 rfl (Nat.zero_le _) h0
/-- each item made into something, whatever is drawn -/
theorem lcW_map {me : α → M β} {g : α → β} {xs : List α} {n0 : Nat} {P : Lst β → Nat → Prop} (h : ∀ (i : Nat) a n, xs[i]? = some a → ∀ Q : β → Nat → Prop, Q (g a) n → me a n Q) (p : P ⟨xs.map g⟩ n0) : lcW (fun _ => retW true) me xs [] n0 P := by
  refine lcW_inv (fun i acc n => n = n0 ∧ acc = (xs.take i).map g) ⟨rfl, rfl⟩ ?_ ?_
  · rintro i a acc n e ⟨rfl, rfl⟩ Q q
    dsimp only [retW]
    rw [if_pos rfl]
    refine h i a _ e _ (q _ _ ⟨rfl, ?_⟩)
    rw [List.take_add_one, e, List.map_append]
    rfl
  · rintro acc n ⟨rfl, rfl⟩
    rw [List.take_length]
    exact p
/-- a choice, whichever way -/
theorem if_w {c : Bool} {a b : M α} {n : Nat} {P : α → Nat → Prop} (ha : c = true → a n P) (hb : c = false → b n P) : (if c = true then a else b) n P := by
  cases c with
  | true => exact ha rfl
  | false => exact hb rfl
theorem seq_if {S2 : Type} {c : Bool} {a b : M (Ctl R B S)} {k : S → M (Ctl R B S2)} {n : Nat} {P : Ctl R B S2 → Nat → Prop} (ha : c = true → seqW a k n P) (hb : c = false → seqW b k n P) : seqW (if c = true then a else b) k n P := by
  cases c with
  | true => exact ha rfl
  | false => exact hb rfl
end
end Bf
namespace Bf
open PySem PySem.Spec PyProof.Rows L2 LamX NdefX
/-! ## data that can be shown and compared -/
structure Gd (d : PyData) (W D : Nat) : Prop where
  sh : d.showable = true
  di : d.hasDict = false
  de : d.depth ≤ D
  lv : d.leavesShort 64 = true
  we : d.weight ≤ W
  ca : d.canLay0 = true
theorem Gd.mono {d : PyData} {W D W' D' : Nat} (h : Gd d W D) (hw : W ≤ W') (hd : D ≤ D') : Gd d W' D' := ⟨h.sh, h.di, Nat.le_trans h.de hd, h.lv, Nat.le_trans h.we hw, h.ca⟩
theorem gd_all {W D : Nat} : ∀ ds : List PyData, (∀ d ∈ ds, Gd d W D) → PyData.showableAll ds = true ∧ PyData.hasDictAll ds = false ∧ PyData.depthAll ds ≤ D ∧ PyData.leavesShortAll 64 ds = true ∧ PyData.weightAll ds ≤ (W + 1) * ds.length ∧ PyData.canLayAll0 ds = true
  | [], _ => ⟨rfl, rfl, Nat.zero_le _, rfl, Nat.le_refl _, rfl⟩
  | d :: ds, h => by
    obtain ⟨a1, a2, a3, a4, a5, a6⟩ := gd_all ds fun x hx => h x (List.mem_cons_of_mem _ hx)
    have o := h d List.mem_cons_self
    refine ⟨?_, ?_, ?_, ?_, ?_, ?_⟩
    · show (PyData.showable d && PyData.showableAll ds) = true
      rw [o.sh, a1]; rfl
    · show (PyData.hasDict d || PyData.hasDictAll ds) = false
      rw [o.di, a2]; rfl
    · show max (PyData.depth d) (PyData.depthAll ds) ≤ D
      have := o.de
      omega
    · show (PyData.leavesShort 64 d && PyData.leavesShortAll 64 ds) = true
      rw [o.lv, a4]; rfl
    · show PyData.weight d + 1 + PyData.weightAll ds ≤ (W + 1) * (ds.length + 1)
      have := o.we
      rw [Nat.mul_add, Nat.mul_one]
      omega
    · show (PyData.canLay0 d && PyData.canLayAll0 ds) = true
      rw [o.ca, a6]; rfl
theorem gd_tup {ds : List PyData} {W D n : Nat} (h : ∀ d ∈ ds, Gd d W D) (hn : ds.length ≤ n) : Gd (.tuple ds) ((W + 1) * n) (D + 1) := by
  obtain ⟨a1, a2, a3, a4, a5, a6⟩ := gd_all ds h
  exact ⟨a1, a2, Nat.succ_le_succ a3, a4, Nat.le_trans a5 (Nat.mul_le_mul_left _ hn), a6⟩
theorem gd_nat {n : Nat} (h : n < 2 ^ 61) : Gd (.int (n : Int)) 62 0 := by
  have h1 : ∀ m ∈ [n], m < 2 ^ 61 := fun m hm => by rw [List.mem_singleton.mp hm]; exact h
  have a := nd_show [n] h1
  have b := nd_leaves [n] h1
  have c := nd_weight [n] h1
  refine ⟨?_, rfl, Nat.le_refl _, ?_, ?_, rfl⟩
  · have a : (PyData.showable (.int (n : Int)) && true) = true := a
    rw [Bool.and_true] at a; exact a
  · have b : (PyData.leavesShort 64 (.int (n : Int)) && true) = true := b
    rw [Bool.and_true] at b; exact b
  · have c : PyData.weight (.int (n : Int)) + 1 + 0 ≤ 63 * 1 := c
    omega
theorem gd_row {ns : List Nat} {k : Nat} (h : ∀ n ∈ ns, n < 2 ^ 61) (hk : ns.length ≤ k) : Gd (enc ns) (63 * k) 1 := gd_tup (W := 62) (D := 0) (fun d hd => by
  obtain ⟨n, hn, rfl⟩ := List.mem_map.mp hd
  exact gd_nat (h n hn)) (by rw [List.length_map]; exact hk)
theorem gd_of {α : Type} [Enc α] {xs : List α} {W D k : Nat} (h : ∀ x ∈ xs, Gd (enc x) W D) (hk : xs.length ≤ k) : Gd (enc xs) ((W + 1) * k) (D + 1) := gd_tup (fun d hd => by
  obtain ⟨n, hn, rfl⟩ := List.mem_map.mp hd
  exact h n hn) (by rw [List.length_map]; exact hk)
theorem Gd.repr {d : PyData} {W D : Nat} (h : Gd d W D) (hw : W ≤ 250000) (hd : D < 60) : ReprOk d := by
  refine ⟨h.sh, h.di, Nat.lt_of_le_of_lt h.de hd, ?_⟩
  have h1 := PyData.shown_le 64 (by decide) d h.lv
  have h2 := h.we
  rw [sizeLine_eq]
  omega
theorem Gd.shape {d : PyData} {W D : Nat} (h : Gd d W D) (hd : D ≤ 64) : shapeOk d := by
  refine ⟨?_, h.di⟩
  unfold SeqAt.shaped
  rw [h.ca, Bool.true_and]
  exact decide_eq_true (Nat.le_trans h.de hd)
theorem Gd.refl {d : PyData} {W D : Nat} (h : Gd d W D) : PyData.eqv d d = true := PySem.SeqAt.eqv_refl d h.ca
end Bf
namespace Bf
open PySem PySem.Spec PyProof.Rows L2 LamX NdefX
/-- what stands there, where it isn't None -/
def getW {α : Type} (m : M (Option α)) : M α := fun n P => m n fun o n' => ∃ a, o = some a ∧ P a n'
section
variable {K : PySem.W.Frag} {T : List (Addr × Str)} {ρ : List Sl} {α : Type} [Enc α]
theorem re_getW {t : TE} {fr : Bool} {m : M (Option α)} (h : RE K T t ρ fr m) : RE K T t ρ fr (getW m) := re_get h
end
end Bf
namespace Bf
open PySem PySem.Spec PyProof.Rows L2 LamX NdefX
section
variable {K : PySem.W.Frag} {T : List (Addr × Str)} {ρ : List Sl} {α : Type} [Enc α]
theorem ow_repT [Pu α] : OpW K (rRepI K) (fun (xs : List α) (k : Int) => reqW (xs ≠ [] ∧ -1000 ≤ k ∧ k ≤ 1000 ∧ xs.length ≤ 1000) (retW (List.replicate k.toNat xs).flatten)) := fun xs k H v w fp fq i1 i2 n P p Q q => by
  obtain ⟨⟨hne, k1, k2, hz⟩, pa⟩ := p
  obtain ⟨a, vs, rfl, hT, hA⟩ := im_tup i1
  have e1 := ima_pu hA
  subst e1
  cases i2
  have hl1 := hA.len
  rw [List.length_map] at hl1
  refine ⟨a, k, vs, rfl, rfl, hT.q, fun e => hne ?_, k1, k2, by omega, fun e => ?_, fun _ t nt => ?_⟩
  · subst e
    exact List.eq_nil_of_length_eq_zero hl1.symm
  · subst e
    refine q _ H _ [] pa (Same.refl H) ?_ ⟨List.nodup_nil, fun x h => absurd h List.not_mem_nil⟩
    have : (List.replicate (1 : Int).toNat xs).flatten = xs := by simp
    rw [this]
    exact i1
  · have s := same_new (Same.refl H) nt (o := .tup (List.replicate k.toNat vs).flatten)
    refine q _ _ _ [] pa s (.tup upd_same ?_) ⟨List.nodup_nil, fun x h => absurd h List.not_mem_nil⟩
    refine ImA.same ?_ s
    generalize k.toNat = m
    show ImA K H _ ((List.replicate m xs).flatten.map enc) []
    induction m with
    | zero => exact .nil
    | succ m ih =>
      rw [List.replicate_succ, List.replicate_succ, List.flatten_cons, List.flatten_cons, List.map_append]
      exact hA.app ih
end
end Bf
namespace Bf
open PySem PySem.Spec PyProof.Rows L2
/-! ### set(xs) of a list of whole numbers -/
section
variable {P : Program} {w : World} {A : Around} {E : Value → Shared → Prop} {s : Shared}
/-- what the filling leaves: S holds just the numbers, all else stands -/
structure Filled (w : World) (S : Addr) (ns : List Int) (s s' : Shared) : Prop where
  set : ∃ c, c ≤ ns.length ∧ SetR w s'.heap S (fun j => decide (j ∈ ns)) c
  keep : ∀ b o, b ≠ S → s.heap.get? b = some o → s'.heap.get? b = some o
  gens : s'.gens = s.gens
  drawn : s'.drawn = s.drawn
  os : s'.os = s.os
end
end Bf
namespace Bf
open PySem PySem.Spec PyProof.Rows L2 LamX NdefX
/-! ### set of a tuple of whole numbers, sorted -/
/-! ### the hands between -/
end Bf
namespace Bf
open PySem PySem.Spec PyProof.Rows L2 LamX NdefX
/-! ## calls, some arguments by place, the others by names -/
def gN {α : Type} (n : Nat) (π : List Nat) (us ws : List α) : List α := if us.length = n ∧ us.length + ws.length = π.length then π.filterMap (fun i => (us ++ ws)[i]?) else []
theorem vals_app {zs : List V} {us : List Value} {xs : List V} {ws : List Value} (r : Vals zs us) (r2 : Vals xs ws) : Vals (zs ++ xs) (us ++ ws) := by
  induction r with
  | nil => exact r2
  | cons a r ih => exact .cons a ih
theorem gN_rel {n : Nat} {π : List Nat} {vs zs : List V} {us ws : List Value} (r1 : Vals vs us) (r2 : Vals zs ws) : Vals (gN n π vs zs) (gN n π us ws) := by
  unfold gN
  rw [r1.length, r2.length]
  by_cases e : us.length = n ∧ us.length + ws.length = π.length
  · rw [if_pos e, if_pos e]
    exact gP_pick (vals_app r1 r2) π
  · rw [if_neg e, if_neg e]
    exact .nil
theorem gN_len {n m : Nat} {π : List Nat} {us ws : List Value} (hm : 0 < m) (h : (gN n π us ws).length = m) : us.length = n ∧ us.length + ws.length = π.length := by
  unfold gN at h
  by_cases e : us.length = n ∧ us.length + ws.length = π.length
  · exact e
  · rw [if_neg e] at h
    have : 0 = m := h
    omega
theorem kbN {n m : Nat} {π : List Nat} {ps ks : List Str} {K : PySem.W.Frag} {x : Str} {st : Stmt} {f : Addr} {fd : FuncData} (F : FunS K x st f fd) (hp : 0 < ps.length) (hm : n + m = π.length)
    (h : ∀ (kV doc pm : Value) (an : Option Addr) (cdv ct : Value) (us ws : List Value), us.length = n → ws.length = m → bindArgs (PySem.W.fnOf x x (defArgs st) (defBody st) (defScope st) .none kV doc pm an cdv ct) ⟨us, ks.zip ws⟩ = pure (ps.zip (gN n π us ws))) :
    KBinds K fd ps ks (gN n π) (gN n π) := by
  obtain ⟨oc, od, dV, kV, doc, pm, an, cdv, ct, osl, rfl, lk, hcd, hD, hK⟩ := F.ex
  rcases hD with ⟨_, rfl⟩ | ⟨z, _⟩
  · refine ⟨fun s us ws _ hl => ?_, fun r1 r2 => gN_rel r1 r2⟩
    obtain ⟨h1, h2⟩ := gN_len hp hl
    exact .of_eq (h kV doc pm an cdv ct us ws h1 (by omega))
  · exact absurd rfl z
theorem kbM {n m : Nat} {π : List Nat} {ps ks : List Str} {K : PySem.W.Frag} {x : Str} {st : Stmt} {f : Addr} {fd : FuncData} (F : Fun K x x st f fd) (hp : 0 < ps.length) (hm : n + m = π.length)
    (h : ∀ (kV doc pm : Value) (an : Option Addr) (cdv ct : Value) (us ws : List Value), us.length = n → ws.length = m → bindArgs (PySem.W.fnOf x x (defArgs st) (defBody st) (defScope st) .none kV doc pm an cdv ct) ⟨us, ks.zip ws⟩ = pure (ps.zip (gN n π us ws))) :
    KBinds K fd ps ks (gN n π) (gN n π) := by
  obtain ⟨oc, od, kV, doc, pm, an, cdv, ct, osl, rfl, lk, hcd⟩ := F.ex
  refine ⟨fun s us ws _ hl => ?_, fun r1 r2 => gN_rel r1 r2⟩
  obtain ⟨h1, h2⟩ := gN_len hp hl
  exact .of_eq (h kV doc pm an cdv ct us ws h1 (by omega))
/-- a def whose last parameter stands behind a star -/
structure CalS (P : Program) (w : World) (K : PySem.W.Frag) (mg : Str → Option Value) (base : Heap) (k : Nat) (x : Str) (f : Addr) (fd : FuncData) (ps : List Str) (sp : Sp) : Prop where
  G : FnOk P w K mg base CX0 k f fd ps sp
  kp : PySem.W.keepIn K (.ref f) = true
  g : mg x = some (.ref f)
section
variable {K : PySem.W.Frag} {T : List (Addr × Str)} {ρ : List Sl}
variable {α β γ δ : Type} [Enc α] [Enc β] [Enc γ] [Enc δ]
theorem re_calld3 {α1 α2 α3 R : Type} [Enc α1] [Enc α2] [Enc α3] [Enc R] {f : α1 → α2 → α3 → Nat → M R} {E : XK} {t1 : TE} {m1 : M α1} {b1 : Bool} (h1 : RE K T t1 ρ b1 m1) {t2 : TE} {m2 : M α2} {b2 : Bool} (h2 : RE K T t2 ρ b2 m2) {t3 : TE} {m3 : M α3} {b3 : Bool} (h3 : RE K T t3 ρ b3 m3) : RE K T (tCall (spW4 K T f) [.int 0] E (tCons t1 (tCons t2 (tCons t3 tNil)))) ρ true (c3W m1 m2 m3 fun a1 a2 a3 => pureW (f a1 a2 a3 0)) := fun Bs po φ σ H n st P p Q q =>
  h1 Bs po φ σ H n st _ p _ fun a1 n1 v1 H1 f1 p1 x1 i1 g1 =>
  h2 Bs po φ σ H1 n1 (st.af x1) _ p1 _ fun a2 n2 v2 H2 f2 p2 x2 i2 g2 =>
  h3 Bs po φ σ H2 n2 ((st.af x1).af x2) _ p2 _ fun a3 n3 v3 H3 f3 p3 x3 i3 g3 =>
  ⟨_, _, _, (0 : Nat), _, _, _, V.int 0, _, _, _, [], rfl, ⟨((i1.af g1.1 x2.fr).af g1.1 x3.fr), (i2.af g2.1 x3.fr), i3, Im.int _⟩, (((st.af x1).af x2).af x3).tabs, _, p3, fun r c v' H' fp pr af im nd hf => q r n3 v' H' fp pr (Af.trans (Af.trans (Af.trans x1 x2) x3) ⟨Fr.weak af.fr, af.tabs, fun a e z => keep_pot af z⟩) im (Fp.back (Af.trans (Af.trans x1 x2) x3).fr ⟨fun b hb => (((st.af x1).af x2).af x3).fresh_pot (hf b hb), fun _ => ⟨nd, hf⟩⟩)⟩
/-! ## bits -/
/-! ## in lists of what may be None -/
def oV : Option Nat → V
  | none => .non
  | some n => .int (n : Int)
theorem ima_opts {H : Hp} : ∀ {xs : List (Option Nat)} {vs : List V} {fp : List Addr}, ImA K H vs (xs.map enc) fp → vs = xs.map oV
  | [], _, _, h => by cases h; rfl
  | x :: xs, _, _, h => by
    cases h with
    | cons a b q =>
      cases x with
      | none => cases a; rw [ima_opts b]; rfl
      | some x => cases a; rw [ima_opts b]; rfl
theorem in_opts (x : Option Nat) : ∀ xs : List (Option Nat), inV (oV x) (xs.map oV) = decide (x ∈ xs)
  | [] => rfl
  | y :: ys => by
    have ih := in_opts x ys
    unfold inV at ih ⊢
    rw [List.map_cons, List.any_cons, ih]
    have e : eqV (oV y) (oV x) = decide (x = y) := by
      cases x with
      | none => cases y <;> rfl
      | some x =>
        cases y with
        | none => rfl
        | some y =>
          show ((y : Int) == (x : Int)) = decide (some x = some y)
          by_cases z : x = y
          · subst z; simp
          · rw [decide_eq_false (fun h => z (Option.some.inj h))]
            exact beq_eq_false_iff_ne.mpr (by omega)
    rw [e]
    simp
theorem flat_opts (xs : List (Option Nat)) : (xs.map oV).all flatV = true := by
  rw [List.all_eq_true]
  intro v hv
  obtain ⟨o, _, rfl⟩ := List.mem_map.mp hv
  cases o <;> rfl
theorem im_oV {H : Hp} {v : V} {x : Option Nat} {fp : List Addr} (h : Im K H v (enc x) fp) : v = oV x := by
  cases x with
  | none => cases h; rfl
  | some x => cases h; rfl
theorem flat_oV (x : Option Nat) : flatV (oV x) = true := by cases x <;> rfl
theorem ow_inTO : OpW K (rIn K false) (fun (x : Option Nat) (xs : List (Option Nat)) => retW (decide (x ∈ xs))) := opw_pure fun x xs H v w fp fq i1 i2 n P p => by
  obtain rfl := im_oV i1
  obtain ⟨a, vs, rfl, hT, hA⟩ := im_tup i2
  obtain rfl := ima_opts hA
  exact ⟨_, _, p, .bl _, fun Q q => ⟨a, xs.map oV, rfl, .inr hT.q, flat_oV x, flat_opts xs, by rw [in_opts]; exact q⟩⟩
/-! ## parts of pairs, threes, whatever is in them -/
/-! ## sorted(set(..)) of numbers -/
end
/-! ## round_bits by what is known of it -/
end Bf
namespace Bf
open PySem PySem.Spec PyProof.Rows L2 LamX NdefX
/-! ## heaps that change at one list -/
structure AfX (K : PySem.W.Frag) (T : List (Addr × Str)) (D : Addr) (po : Option Addr) (H : Hp) (n : Nat) (H' : Hp) (n' : Nat) : Prop where
  keep : ∀ b o, b ≠ D → po ≠ some b → H b = some o → (∀ ps, o ≠ .tbl ps) → H' b = some o
  tup : ∀ b xs, TupR H b xs → TupR H' b xs
  tabs : Tabs T H → Tabs T H'
  pot : ∀ a, po = some a → Pot H a n → Pot H' a n'
section
variable {K : PySem.W.Frag} {T : List (Addr × Str)} {D : Addr} {po : Option Addr} {H H1 H' : Hp} {n n1 n' : Nat}
theorem AfX.of (a : Af K T po H n H' n') : AfX K T D po H n H' n' := ⟨fun b o _ h1 h2 h3 => a.fr.keep b o h1 h2 h3, a.fr.tup, a.tabs, a.pot⟩
theorem AfX.refl : AfX K T D po H n H n := AfX.of Af.refl
theorem AfX.trans (x : AfX K T D po H n H1 n1) (y : AfX K T D po H1 n1 H' n') : AfX K T D po H n H' n' := ⟨fun b o h0 h1 h2 h3 => y.keep b o h0 h1 (x.keep b o h0 h1 h2 h3) h3, fun b xs h => y.tup b xs (x.tup b xs h), fun t => y.tabs (x.tabs t), fun a e p => y.pot a e (x.pot a e p)⟩
theorem AfX.write {l l' : List V} (hp : po ≠ some D) (e : H D = some (.lst l)) : AfX K T D po H n (upd H D (.lst l')) n := by
  refine ⟨fun b o h0 _ h2 _ => by rw [upd_ne h0]; exact h2, fun b xs h => ?_, fun t => tabs_upd t e, fun a ea p => ?_⟩
  · unfold TupR at h ⊢
    rw [upd_ne (fun z => by rw [z, e] at h; cases h)]
    exact h
  · obtain ⟨x, y, z, hH, hh⟩ := p
    exact ⟨x, y, z, by rw [upd_ne (fun w => hp (by rw [← w]; exact ea))]; exact hH, hh⟩
end
section
variable {α β γ : Type}
end
section
variable {K : PySem.W.Frag} {T : List (Addr × Str)} {ρ : List Sl}
variable {α β γ δ : Type} [Enc α] [Enc β] [Enc γ] [Enc δ]
end
section
variable {K : PySem.W.Frag} {T : List (Addr × Str)} {ρ : List Sl}
variable {α β γ δ : Type} [Enc α] [Enc β] [Enc γ] [Enc δ]
variable {B S : Type} {C : Option Addr → Prop} {ρn : S → List Sl} {ρb : B → List Sl}
end
end Bf
namespace Bf
open PySem PySem.Spec PyProof.Rows L2 LamX NdefX
/-! ## more of what words come to -/
theorem and_w {a b : M Bool} {x y : Bool} {n : Nat} {P : Bool → Nat → Prop} (ha : ∀ Q : Bool → Nat → Prop, Q x n → a n Q) (hb : x = true → ∀ Q : Bool → Nat → Prop, Q y n → b n Q) (p : P (x && y) n) : andW a b n P := by
  refine ha _ ?_
  cases x with
  | true => exact hb rfl _ p
  | false => exact p
theorem or_w {a b : M Bool} {x y : Bool} {n : Nat} {P : Bool → Nat → Prop} (ha : ∀ Q : Bool → Nat → Prop, Q x n → a n Q) (hb : x = false → ∀ Q : Bool → Nat → Prop, Q y n → b n Q) (p : P (x || y) n) : orW a b n P := by
  refine ha _ ?_
  cases x with
  | true => exact p
  | false => exact hb rfl _ p
section
variable {α β γ R B S S2 : Type}
theorem and_b {a b : M Bool} {x y : Bool} {n : Nat} {k : Bool → M β} {P : β → Nat → Prop} (ha : ∀ Q : Bool → Nat → Prop, Q x n → a n Q) (hb : x = true → ∀ Q : Bool → Nat → Prop, Q y n → b n Q) (p : k (x && y) n P) : bindW (andW a b) k n P := and_w ha hb p
theorem or_b {a b : M Bool} {x y : Bool} {n : Nat} {k : Bool → M β} {P : β → Nat → Prop} (ha : ∀ Q : Bool → Nat → Prop, Q x n → a n Q) (hb : x = false → ∀ Q : Bool → Nat → Prop, Q y n → b n Q) (p : k (x || y) n P) : bindW (orW a b) k n P := or_w ha hb p
/-- an if that isn't gone into -/
theorem seq_skip {c : Bool} {a : M (Ctl R B S)} {s : S} {k : S → M (Ctl R B S2)} {n : Nat} {P : Ctl R B S2 → Nat → Prop} (e : c = false) (h : k s n P) : seqW (if c = true then a else retW (.nxt s)) k n P := by
  subst e
  exact h
end
/-! ## data of a kind: its shape, and when two are equal -/
class Shp (α : Type) [Enc α] where
  dp : Nat
  ca : ∀ a : α, (enc a).canLay0 = true
  di : ∀ a : α, (enc a).hasDict = false
  de : ∀ a : α, (enc a).depth ≤ dp
instance : Shp Nat := ⟨0, fun _ => rfl, fun _ => rfl, fun _ => Nat.le_refl _⟩
instance : Shp Int := ⟨0, fun _ => rfl, fun _ => rfl, fun _ => Nat.le_refl _⟩
instance : Shp Bool := ⟨0, fun _ => rfl, fun _ => rfl, fun _ => Nat.le_refl _⟩
instance : Shp Unit := ⟨0, fun _ => rfl, fun _ => rfl, fun _ => Nat.le_refl _⟩
instance {α : Type} [Enc α] [Shp α] : Shp (Option α) := ⟨Shp.dp α, fun a => match a with | none => rfl | some a => Shp.ca a, fun a => match a with | none => rfl | some a => Shp.di a, fun a => match a with | none => Nat.zero_le _ | some a => Shp.de a⟩
theorem lay_all {α : Type} [Enc α] [Shp α] : ∀ xs : List α, PyData.canLayAll0 (xs.map enc) = true ∧ PyData.hasDictAll (xs.map enc) = false ∧ PyData.depthAll (xs.map enc) ≤ Shp.dp α
  | [] => ⟨rfl, rfl, Nat.zero_le _⟩
  | x :: xs => by
    obtain ⟨h1, h2, h3⟩ := lay_all xs
    refine ⟨?_, ?_, ?_⟩
    · show (PyData.canLay0 (enc x) && PyData.canLayAll0 (xs.map enc)) = true
      rw [Shp.ca x, h1]; rfl
    · show (PyData.hasDict (enc x) || PyData.hasDictAll (xs.map enc)) = false
      rw [Shp.di x, h2]; rfl
    · show max (PyData.depth (enc x)) (PyData.depthAll (xs.map enc)) ≤ _
      have := Shp.de x
      omega
instance {α : Type} [Enc α] [Shp α] : Shp (List α) := ⟨Shp.dp α + 1, fun a => (lay_all a).1, fun a => (lay_all a).2.1, fun a => Nat.succ_le_succ (lay_all a).2.2⟩
instance {α : Type} [Enc α] [Shp α] : Shp (Lst α) := ⟨Shp.dp α + 1, fun a => (lay_all a.l).1, fun a => (lay_all a.l).2.1, fun a => Nat.succ_le_succ (lay_all a.l).2.2⟩
instance {α β : Type} [Enc α] [Enc β] [Shp α] [Shp β] : Shp (α × β) := ⟨max (Shp.dp α) (Shp.dp β) + 1, fun a => by
    show (PyData.canLay0 (enc a.1) && (PyData.canLay0 (enc a.2) && true)) = true
    rw [Shp.ca a.1, Shp.ca a.2]; rfl, fun a => by
    show (PyData.hasDict (enc a.1) || (PyData.hasDict (enc a.2) || false)) = false
    rw [Shp.di a.1, Shp.di a.2]; rfl, fun a => by
    show max (PyData.depth (enc a.1)) (max (PyData.depth (enc a.2)) 0) + 1 ≤ _
    have := Shp.de a.1
    have := Shp.de a.2
    omega⟩
instance {α β γ : Type} [Enc α] [Enc β] [Enc γ] [Shp α] [Shp β] [Shp γ] : Shp (T3 α β γ) := ⟨max (Shp.dp α) (max (Shp.dp β) (Shp.dp γ)) + 1, fun a => by
    show (PyData.canLay0 (enc a.a) && (PyData.canLay0 (enc a.b) && (PyData.canLay0 (enc a.c) && true))) = true
    rw [Shp.ca a.a, Shp.ca a.b, Shp.ca a.c]; rfl, fun a => by
    show (PyData.hasDict (enc a.a) || (PyData.hasDict (enc a.b) || (PyData.hasDict (enc a.c) || false))) = false
    rw [Shp.di a.a, Shp.di a.b, Shp.di a.c]; rfl, fun a => by
    show max (PyData.depth (enc a.a)) (max (PyData.depth (enc a.b)) (max (PyData.depth (enc a.c)) 0)) + 1 ≤ _
    have := Shp.de a.a
    have := Shp.de a.b
    have := Shp.de a.c
    omega⟩
instance {α β γ δ : Type} [Enc α] [Enc β] [Enc γ] [Enc δ] [Shp α] [Shp β] [Shp γ] [Shp δ] : Shp (T4 α β γ δ) := ⟨max (Shp.dp α) (max (Shp.dp β) (max (Shp.dp γ) (Shp.dp δ))) + 1, fun a => by
    show (PyData.canLay0 (enc a.a) && (PyData.canLay0 (enc a.b) && (PyData.canLay0 (enc a.c) && (PyData.canLay0 (enc a.d) && true)))) = true
    rw [Shp.ca a.a, Shp.ca a.b, Shp.ca a.c, Shp.ca a.d]; rfl, fun a => by
    show (PyData.hasDict (enc a.a) || (PyData.hasDict (enc a.b) || (PyData.hasDict (enc a.c) || (PyData.hasDict (enc a.d) || false)))) = false
    rw [Shp.di a.a, Shp.di a.b, Shp.di a.c, Shp.di a.d]; rfl, fun a => by
    show max (PyData.depth (enc a.a)) (max (PyData.depth (enc a.b)) (max (PyData.depth (enc a.c)) (max (PyData.depth (enc a.d)) 0))) + 1 ≤ _
    have := Shp.de a.a
    have := Shp.de a.b
    have := Shp.de a.c
    have := Shp.de a.d
    omega⟩
theorem shp {α : Type} [Enc α] [Shp α] (a : α) (h : Shp.dp α ≤ 64 := by decide) : shapeOk (enc a) := by
  refine ⟨?_, Shp.di a⟩
  unfold SeqAt.shaped
  rw [Shp.ca a, Bool.true_and]
  exact decide_eq_true (Nat.le_trans (Shp.de a) h)
/-- equal data, equal things -/
class Eqv (α : Type) [Enc α] : Prop where
  iff : ∀ a b : α, PyData.eqv (enc a) (enc b) = true ↔ a = b
class NoNone (α : Type) [Enc α] : Prop where
  l : ∀ a : α, PyData.eqv .none (enc a) = false
  r : ∀ a : α, PyData.eqv (enc a) .none = false
instance : Eqv Nat := ⟨fun a b => by
  show ((a : Int) == (b : Int)) = true ↔ a = b
  rw [beq_iff_eq]
  omega⟩
instance : Eqv Int := ⟨fun a b => by
  show (a == b) = true ↔ a = b
  rw [beq_iff_eq]⟩
instance : Eqv Bool := ⟨fun a b => by
  show (a == b) = true ↔ a = b
  rw [beq_iff_eq]⟩
instance : NoNone Nat := ⟨fun _ => rfl, fun _ => rfl⟩
instance : NoNone Int := ⟨fun _ => rfl, fun _ => rfl⟩
instance : NoNone Bool := ⟨fun _ => rfl, fun _ => rfl⟩
instance {α : Type} [Enc α] : NoNone (List α) := ⟨fun _ => rfl, fun _ => rfl⟩
instance {α : Type} [Enc α] : NoNone (Lst α) := ⟨fun _ => rfl, fun _ => rfl⟩
instance {α β : Type} [Enc α] [Enc β] : NoNone (α × β) := ⟨fun _ => rfl, fun _ => rfl⟩
instance {α β γ : Type} [Enc α] [Enc β] [Enc γ] : NoNone (T3 α β γ) := ⟨fun _ => rfl, fun _ => rfl⟩
instance {α β γ δ : Type} [Enc α] [Enc β] [Enc γ] [Enc δ] : NoNone (T4 α β γ δ) := ⟨fun _ => rfl, fun _ => rfl⟩
instance {α : Type} [Enc α] [Eqv α] [NoNone α] : Eqv (Option α) := ⟨fun a b => by
  cases a with
  | none =>
    cases b with
    | none => exact ⟨fun _ => rfl, fun _ => rfl⟩
    | some b => exact ⟨fun h => (by rw [show PyData.eqv (enc (none : Option α)) (enc (some b)) = PyData.eqv .none (enc b) from rfl, NoNone.l b] at h; cases h), fun h => nomatch h⟩
  | some a =>
    cases b with
    | none => exact ⟨fun h => (by rw [show PyData.eqv (enc (some a)) (enc (none : Option α)) = PyData.eqv (enc a) .none from rfl, NoNone.r a] at h; cases h), fun h => nomatch h⟩
    | some b => exact (Eqv.iff a b).trans ⟨fun h => by rw [h], fun h => Option.some.inj h⟩⟩
theorem eqv_all {α : Type} [Enc α] [Eqv α] : ∀ xs ys : List α, PyData.eqvAll (xs.map enc) (ys.map enc) = true ↔ xs = ys
  | [], [] => ⟨fun _ => rfl, fun _ => rfl⟩
  | [], y :: ys => ⟨fun h => Bool.noConfusion h, fun h => List.noConfusion rfl (heq_of_eq h)⟩
  | x :: xs, [] => ⟨fun h => Bool.noConfusion h, fun h => List.noConfusion rfl (heq_of_eq h)⟩
  | x :: xs, y :: ys => by
    show (PyData.eqv (enc x) (enc y) && PyData.eqvAll (xs.map enc) (ys.map enc)) = true ↔ _
    rw [Bool.and_eq_true, Eqv.iff, eqv_all xs ys, List.cons.injEq]
instance {α : Type} [Enc α] [Eqv α] : Eqv (List α) := ⟨fun a b => eqv_all a b⟩
instance {α : Type} [Enc α] [Eqv α] : Eqv (Lst α) := ⟨fun a b => (eqv_all a.l b.l).trans ⟨fun h => (by cases a; cases b; exact congrArg Lst.mk h), fun h => by rw [h]⟩⟩
instance {α β : Type} [Enc α] [Enc β] [Eqv α] [Eqv β] : Eqv (α × β) := ⟨fun a b => by
  show (PyData.eqv (enc a.1) (enc b.1) && (PyData.eqv (enc a.2) (enc b.2) && true)) = true ↔ _
  rw [Bool.and_true, Bool.and_eq_true, Eqv.iff, Eqv.iff]
  cases a; cases b
  exact ⟨fun h => (by obtain ⟨h1, h2⟩ := h; dsimp only at h1 h2; rw [h1, h2]), fun h => (by cases h; exact ⟨rfl, rfl⟩)⟩⟩
instance {α β γ : Type} [Enc α] [Enc β] [Enc γ] [Eqv α] [Eqv β] [Eqv γ] : Eqv (T3 α β γ) := ⟨fun a b => by
  show (PyData.eqv (enc a.a) (enc b.a) && (PyData.eqv (enc a.b) (enc b.b) && (PyData.eqv (enc a.c) (enc b.c) && true))) = true ↔ _
  rw [Bool.and_true, Bool.and_eq_true, Bool.and_eq_true, Eqv.iff, Eqv.iff, Eqv.iff]
  cases a; cases b
  exact ⟨fun h => (by obtain ⟨h1, h2, h3⟩ := h; dsimp only at h1 h2 h3; rw [h1, h2, h3]), fun h => (by cases h; exact ⟨rfl, rfl, rfl⟩)⟩⟩
instance {α β γ δ : Type} [Enc α] [Enc β] [Enc γ] [Enc δ] [Eqv α] [Eqv β] [Eqv γ] [Eqv δ] : Eqv (T4 α β γ δ) := ⟨fun a b => by
  show (PyData.eqv (enc a.a) (enc b.a) && (PyData.eqv (enc a.b) (enc b.b) && (PyData.eqv (enc a.c) (enc b.c) && (PyData.eqv (enc a.d) (enc b.d) && true)))) = true ↔ _
  rw [Bool.and_true, Bool.and_eq_true, Bool.and_eq_true, Bool.and_eq_true, Eqv.iff, Eqv.iff, Eqv.iff, Eqv.iff]
  cases a; cases b
  exact ⟨fun h => (by obtain ⟨h1, h2, h3, h4⟩ := h; dsimp only at h1 h2 h3 h4; rw [h1, h2, h3, h4]), fun h => (by cases h; exact ⟨rfl, rfl, rfl, rfl⟩)⟩⟩
theorem eqv_t {α : Type} [Enc α] [Eqv α] {a b : α} (h : a = b) : PyData.eqv (enc a) (enc b) = true := (Eqv.iff a b).mpr h
theorem eqv_f {α : Type} [Enc α] [Eqv α] {a b : α} (h : a ≠ b) : PyData.eqv (enc a) (enc b) = false := by
  cases e : PyData.eqv (enc a) (enc b) with
  | false => rfl
  | true => exact absurd ((Eqv.iff a b).mp e) h
end Bf
namespace Bf
open PySem PySem.Spec PyProof.Rows L2 LamX NdefX
/-! ## tuples of four and six; what kind a thing is; chained comparisons -/

structure Bls2 (mg : Str → Option Value) : Prop extends Bls mg where
  isinstance : mg "isinstance" = none
  bool : mg "bool" = none
section
variable {K : PySem.W.Frag} {T : List (Addr × Str)} {ρ : List Sl}
end
/-- what is a tuple, whatever its kind -/
class Tpl (α : Type) [Enc α] : Prop where
  ex : ∀ a : α, ∃ ds, enc a = .tuple ds
instance {α : Type} [Enc α] : Tpl (List α) := ⟨fun _ => ⟨_, rfl⟩⟩
instance {α β : Type} [Enc α] [Enc β] : Tpl (α × β) := ⟨fun _ => ⟨_, rfl⟩⟩
instance {α β γ : Type} [Enc α] [Enc β] [Enc γ] : Tpl (T3 α β γ) := ⟨fun _ => ⟨_, rfl⟩⟩
instance {α β γ δ : Type} [Enc α] [Enc β] [Enc γ] [Enc δ] : Tpl (T4 α β γ δ) := ⟨fun _ => ⟨_, rfl⟩⟩
def t4W {α β γ δ : Type} (ma : M α) (mb : M β) (mc : M γ) (md : M δ) : M (T4 α β γ δ) := fun n P => ma n fun x1 n1 => mb n1 fun x2 n2 => mc n2 fun x3 n3 => md n3 fun x4 n4 => P (⟨x1, x2, x3, x4⟩ : (T4 α β γ δ)) n4
section
variable {K : PySem.W.Frag} {T : List (Addr × Str)} {ρ : List Sl}
theorem re_t4 {α β γ δ : Type} [Enc α] [Enc β] [Enc γ] [Enc δ] {ta tb tc td : TE} {ma : M α} {mb : M β} {mc : M γ} {md : M δ} (ha : RE K T ta ρ true ma) (hb : RE K T tb ρ true mb) (hc : RE K T tc ρ true mc) (hd : RE K T td ρ true md) : RE K T (tTup (tCons ta (tCons tb (tCons tc (tCons td tNil))))) ρ true (t4W ma mb mc md) := fun Bs po φ σ H n st P p Q q =>
  ha Bs po φ σ H n st _ p _ fun x1 n1 v1 H1 f1 p1 a1 i1 g1 => hb Bs po φ σ H1 n1 (st.af a1) _ p1 _ fun x2 n2 v2 H2 f2 p2 a2 i2 g2 => hc Bs po φ σ H2 n2 ((st.af a1).af a2) _ p2 _ fun x3 n3 v3 H3 f3 p3 a3 i3 g3 => hd Bs po φ σ H3 n3 (((st.af a1).af a2).af a3) _ p3 _ fun x4 n4 v4 H4 f4 p4 a4 i4 g4 => by
    refine ⟨by show 4 ≤ sizeLine; decide, fun t nt => ?_⟩
    have s := same_new (Same.refl H4) nt (o := .tup [v1, v2, v3, v4])
    have i1' := (((i1.af g1.1 a2.fr).af g1.1 a3.fr).af g1.1 a4.fr).same s
    have i2' := ((i2.af g2.1 a3.fr).af g2.1 a4.fr).same s
    have i3' := (i3.af g3.1 a4.fr).same s
    have i4' := i4.same s
    exact q _ n4 _ _ _ p4 ((((a1.trans a2).trans a3).trans a4).trans (Af.same s)) (.tup upd_same (.cons i1' (.cons i2' (.cons i3' (.cons i4' .nil (List.append_nil _).symm) rfl) rfl) rfl)) (fp_two a1 i1 g1 (fp_two a2 i2 g2 (fp_two a3 i3 g3 g4)))
end
structure T6 (α β γ δ ε ζ : Type) where
  a : α
  b : β
  c : γ
  d : δ
  e : ε
  f : ζ
instance {α β γ δ ε ζ : Type} [Enc α] [Enc β] [Enc γ] [Enc δ] [Enc ε] [Enc ζ] : Enc (T6 α β γ δ ε ζ) := ⟨fun x => .tuple [enc x.a, enc x.b, enc x.c, enc x.d, enc x.e, enc x.f]⟩
theorem ima5 {K : PySem.W.Frag} {H : Hp} {vs : List V} {d1 d2 d3 d4 d5 : PyData} {fp : List Addr} (h : ImA K H vs [d1, d2, d3, d4, d5] fp) : ∃ v1 v2 v3 v4 v5 f1 f2 f3 f4 f5, vs = [v1, v2, v3, v4, v5] ∧ Im K H v1 d1 f1 ∧ Im K H v2 d2 f2 ∧ Im K H v3 d3 f3 ∧ Im K H v4 d4 f4 ∧ Im K H v5 d5 f5 ∧ fp = f1 ++ (f2 ++ (f3 ++ (f4 ++ f5))) := by
  cases h with
  | cons a b q =>
    obtain ⟨w2, w3, w4, w5, g2, g3, g4, g5, rfl, h2, h3, h4, h5, e⟩ := ima4 b
    exact ⟨_, w2, w3, w4, w5, _, _, _, _, _, rfl, a, h2, h3, h4, h5, by rw [q, e]⟩
theorem ima6 {K : PySem.W.Frag} {H : Hp} {vs : List V} {d1 d2 d3 d4 d5 d6 : PyData} {fp : List Addr} (h : ImA K H vs [d1, d2, d3, d4, d5, d6] fp) : ∃ v1 v2 v3 v4 v5 v6 f1 f2 f3 f4 f5 f6, vs = [v1, v2, v3, v4, v5, v6] ∧ Im K H v1 d1 f1 ∧ Im K H v2 d2 f2 ∧ Im K H v3 d3 f3 ∧ Im K H v4 d4 f4 ∧ Im K H v5 d5 f5 ∧ Im K H v6 d6 f6 ∧ fp = f1 ++ (f2 ++ (f3 ++ (f4 ++ (f5 ++ f6)))) := by
  cases h with
  | cons a b q =>
    obtain ⟨w2, w3, w4, w5, w6, g2, g3, g4, g5, g6, rfl, h2, h3, h4, h5, h6, e⟩ := ima5 b
    exact ⟨_, w2, w3, w4, w5, w6, _, _, _, _, _, _, rfl, a, h2, h3, h4, h5, h6, by rw [q, e]⟩
instance {α β γ δ ε ζ : Type} [Enc α] [Enc β] [Enc γ] [Enc δ] [Enc ε] [Enc ζ] [Pu α] [Pu β] [Pu γ] [Pu δ] [Pu ε] [Pu ζ] : Pu (T6 α β γ δ ε ζ) := ⟨fun {K H v a fp} h => by
  cases h with
  | tup e b =>
    obtain ⟨v1, v2, v3, v4, v5, v6, f1, f2, f3, f4, f5, f6, rfl, h1, h2, h3, h4, h5, h6, rfl⟩ := ima6 b
    rw [Pu.pu h1, Pu.pu h2, Pu.pu h3, Pu.pu h4, Pu.pu h5, Pu.pu h6]; rfl⟩
instance {α β γ δ ε ζ : Type} [Enc α] [Enc β] [Enc γ] [Enc δ] [Enc ε] [Enc ζ] [Shp α] [Shp β] [Shp γ] [Shp δ] [Shp ε] [Shp ζ] : Shp (T6 α β γ δ ε ζ) := ⟨max (Shp.dp α) (max (Shp.dp β) (max (Shp.dp γ) (max (Shp.dp δ) (max (Shp.dp ε) (Shp.dp ζ))))) + 1, fun a => by
    show (PyData.canLay0 (enc a.a) && (PyData.canLay0 (enc a.b) && (PyData.canLay0 (enc a.c) && (PyData.canLay0 (enc a.d) && (PyData.canLay0 (enc a.e) && (PyData.canLay0 (enc a.f) && true)))))) = true
    rw [Shp.ca a.a, Shp.ca a.b, Shp.ca a.c, Shp.ca a.d, Shp.ca a.e, Shp.ca a.f]; rfl, fun a => by
    show (PyData.hasDict (enc a.a) || (PyData.hasDict (enc a.b) || (PyData.hasDict (enc a.c) || (PyData.hasDict (enc a.d) || (PyData.hasDict (enc a.e) || (PyData.hasDict (enc a.f) || false)))))) = false
    rw [Shp.di a.a, Shp.di a.b, Shp.di a.c, Shp.di a.d, Shp.di a.e, Shp.di a.f]; rfl, fun a => by
    show (max (PyData.depth (enc a.a)) (max (PyData.depth (enc a.b)) (max (PyData.depth (enc a.c)) (max (PyData.depth (enc a.d)) (max (PyData.depth (enc a.e)) (max (PyData.depth (enc a.f)) 0)))))) + 1 ≤ _
    have := Shp.de a.a
    have := Shp.de a.b
    have := Shp.de a.c
    have := Shp.de a.d
    have := Shp.de a.e
    have := Shp.de a.f
    omega⟩
instance {α β γ δ ε ζ : Type} [Enc α] [Enc β] [Enc γ] [Enc δ] [Enc ε] [Enc ζ] : NoNone (T6 α β γ δ ε ζ) := ⟨fun _ => rfl, fun _ => rfl⟩
instance {α β γ δ ε ζ : Type} [Enc α] [Enc β] [Enc γ] [Enc δ] [Enc ε] [Enc ζ] [Eqv α] [Eqv β] [Eqv γ] [Eqv δ] [Eqv ε] [Eqv ζ] : Eqv (T6 α β γ δ ε ζ) := ⟨fun a b => by
  show (PyData.eqv (enc a.a) (enc b.a) && (PyData.eqv (enc a.b) (enc b.b) && (PyData.eqv (enc a.c) (enc b.c) && (PyData.eqv (enc a.d) (enc b.d) && (PyData.eqv (enc a.e) (enc b.e) && (PyData.eqv (enc a.f) (enc b.f) && true)))))) = true ↔ _
  rw [Bool.and_true, Bool.and_eq_true, Bool.and_eq_true, Bool.and_eq_true, Bool.and_eq_true, Bool.and_eq_true, Eqv.iff, Eqv.iff, Eqv.iff, Eqv.iff, Eqv.iff, Eqv.iff]
  cases a; cases b
  exact ⟨fun h => (by obtain ⟨h1, h2, h3, h4, h5, h6⟩ := h; dsimp only at h1 h2 h3 h4 h5 h6; rw [h1, h2, h3, h4, h5, h6]), fun h => (by cases h; exact ⟨rfl, rfl, rfl, rfl, rfl, rfl⟩)⟩⟩
instance {α β γ δ ε ζ : Type} [Enc α] [Enc β] [Enc γ] [Enc δ] [Enc ε] [Enc ζ] : Tpl (T6 α β γ δ ε ζ) := ⟨fun _ => ⟨_, rfl⟩⟩
section
variable {K : PySem.W.Frag} {T : List (Addr × Str)} {ρ : List Sl}
end

section
variable {K : PySem.W.Frag} {T : List (Addr × Str)} {ρ : List Sl}
variable {α β γ δ : Type} [Enc α] [Enc β] [Enc γ] [Enc δ]
/-! ### None or a tuple -/
theorem uw_reprQ [Tpl α] : UnW K (fun x => rReprA K [x]) (fun x : α => reqW (ReprOk (enc x)) (retW (enc x).shown)) := unw_pure fun x H v fp i1 n P p => by
  obtain ⟨ds, e⟩ := Tpl.ex x
  have i3 := i1
  rw [e] at i3
  cases i3
  exact ⟨_, _, p.2, .str _, fun Q q => .inr ⟨_, _, rfl, Im.dpD _ _ _ i1 p.1.2.1, p.1.1, p.1.2.1, p.1.2.2.1, p.1.2.2.2, q⟩⟩
/-! ### a truth's repr -/
/-! ### is True, is False -/
/-! ### isinstance -/
theorem re_isi {ta : TE} {ma : M α} {g : α → Bool} {c : String} {f1 : Bool} (hk : ∀ (a : α) (H : Hp) (v : V) (fp : List Addr), Im K H v (enc a) fp → ∃ t, TyX K H v t ∧ PySem.W.kitOne K t (.type c) = some (g a)) (ha : RE K T ta ρ f1 ma) : RE K T (tCB (rIsi K) (tCons ta (tCons (tC (.ty c)) tNil))) ρ true (mapW g ma) := fun Bs po φ σ H n st P p Q q =>
  ha Bs po φ σ H n st _ p _ fun a n1 v H1 fp pa a1 i1 g1 => by
    obtain ⟨t, ty, kk⟩ := hk a H1 v fp i1
    exact ⟨v, .ty c, t, .type c, g a, rfl, .ty c, ty, kk, q _ n1 _ H1 [] pa a1 (.bl _) Fp.nil⟩
/-! ### a chained comparison -/
def chW (f g : Nat → Nat → Bool) (ma mb mc : M Nat) : M Bool := bindW ma fun a => bindW mb fun b => if f a b = true then bindW mc fun c => retW (g b c) else retW false
theorem re_chain {ta tb tc : TE} {ma mb mc : M Nat} {f g : Nat → Nat → Bool} {r r' : R2} {f1 f2 f3 : Bool} (hr : OpW K r fun a b : Nat => retW (f a b)) (hr' : OpW K r' fun a b : Nat => retW (g a b)) (ha : RE K T ta ρ f1 ma) (hb : RE K T tb ρ f2 mb) (hc : RE K T tc ρ f3 mc) :
    RE K T (tChain r r' ta tb tc) ρ true (chW f g ma mb mc) := fun Bs po φ σ H n st P p Q q =>
  ha Bs po φ σ H n st _ p _ fun a n1 v H1 fp pa a1 i1 g1 => hb Bs po φ σ H1 n1 (st.af a1) _ pa _ fun b n2 w H2 fq pb a2 i2 g2 => by
    cases i1
    cases i2
    refine hr a b H2 _ _ [] [] (.int _) (.int _) n2 (fun c n' => c = f a b ∧ n' = n2) ⟨rfl, rfl⟩ _ fun c H3 v' fr pc s3 i3 g3 => ?_
    obtain ⟨rfl, -⟩ := pc
    cases i3
    refine ⟨_, rfl, ?_⟩
    have a3 : Af K T po H n H3 n2 := (a1.trans a2).trans (Af.same s3)
    cases e : f a b with
    | false =>
      rw [if_neg (by decide)]
      dsimp only at pb
      rw [e, if_neg (by decide)] at pb
      exact q false n2 _ H3 [] pb a3 (.bl _) Fp.nil
    | true =>
      rw [if_pos rfl]
      dsimp only at pb
      rw [e, if_pos rfl] at pb
      refine hc Bs po φ σ H3 n2 (st.af a3) _ pb _ fun c n4 u H4 fr4 pd a4 i4 g4 => ?_
      cases i4
      refine hr' b c H4 _ _ [] [] (.int _) (.int _) n4 _ pd _ fun c2 H5 v5 fr5 p5 s5 i5 g5 => ?_
      cases i5
      exact q c2 n4 _ H5 [] p5 ((a3.trans a4).trans (Af.same s5)) (.bl _) Fp.nil
/-! ### three names at once -/
section
variable {R B S : Type} [Enc R] {C : Option Addr → Prop} {ρn : S → List Sl} {ρb : B → List Sl}
end
/-! ### a list from behind -/
end
end Bf
namespace Bf
open PySem PySem.Spec PyProof.Rows L2 LamX NdefX
/-! ### max(e, key=lambda x: .., default=None) of a list of tuples -/
section
variable {X : Cx} {pins : List (Addr × Obj)} {σ : L2.St} {H : Hp} {s s1 : Shared}
end
end Bf
namespace Bf
open PySem PySem.Spec PyProof.Rows L2 LamX NdefX
/-! ## the greatest of a list of tuples, by one of their parts -/
section
variable {K : PySem.W.Frag} {T : List (Addr × Str)} {ρ : List Sl}
variable {α β γ δ : Type} [Enc α] [Enc β] [Enc γ] [Enc δ]
/-! ## parts of four -/
/-! ## where it stands -/
end
end Bf
namespace Bf
open PySem PySem.Spec PyProof.Rows L2 LamX NdefX
/-! ## dicts with tuples for keys -/
structure Dct (κ β : Type) where
  l : List (κ × β)
instance {κ β : Type} [Enc κ] [Enc β] : Enc (Dct κ β) := ⟨fun d => .dict (d.l.map fun kv => (enc kv.1, enc kv.2))⟩
class TK (κ : Type) [Enc κ] where
  key : κ → List Key
  dec : DecidableEq κ
  inj : ∀ a b, key a = key b → a = b
  en : ∀ a, enc a = .tuple ((key a).map kD)
  obj : ∀ {K : PySem.W.Frag} {H : Hp} {v : V} {a : κ} {fp : List Addr}, Im K H v (enc a) fp → ∃ b, v = .ref b ∧ H b = some (.tup ((key a).map kV))
  back : ∀ {K : PySem.W.Frag} {H : Hp} {b : Addr} {a : κ}, H b = some (.tup ((key a).map kV)) → Im K H (.ref b) (enc a) []
instance {κ : Type} [Enc κ] [TK κ] : DecidableEq κ := TK.dec
instance : TK (T3 Nat Nat Nat) where
  key := fun x => [.inl (x.a : Int), .inl (x.b : Int), .inl (x.c : Int)]
  dec := fun x y => decidable_of_iff (x.a = y.a ∧ x.b = y.b ∧ x.c = y.c) ⟨fun h => by cases x; cases y; obtain ⟨h1, h2, h3⟩ := h; dsimp only at h1 h2 h3; rw [h1, h2, h3], fun h => by subst h; exact ⟨rfl, rfl, rfl⟩⟩
  inj := fun x y h => by
    cases x; cases y
    simp only [List.cons.injEq, Sum.inl.injEq, and_true] at h
    obtain ⟨h1, h2, h3⟩ := h
    simp only [T3.mk.injEq]
    omega
  en := fun _ => rfl
  obj := fun h => by
    cases h with
    | tup e b =>
      obtain ⟨v1, v2, v3, f1, f2, f3, rfl, h1, h2, h3, _⟩ := ima3 b
      cases h1
      cases h2
      cases h3
      exact ⟨_, rfl, e⟩
  back := fun h => .tup h (.cons (.int _) (.cons (.int _) (.cons (.int _) .nil rfl) rfl) rfl)
section
variable {κ β : Type} [Enc κ] [Enc β] [TK κ]
def dPut (l : List (κ × β)) (k : κ) (v : β) : List (κ × β) := if (l.any fun kv => decide (kv.1 = k)) = true then l.map (fun kv => if kv.1 = k then (kv.1, v) else kv) else l ++ [(k, v)]
def dGet (l : List (κ × β)) (k : κ) : Option β := (l.find? fun kv => decide (kv.1 = k)).map (·.2)
/-- entries that tell the same -/
inductive Ents (K : PySem.W.Frag) (H : Hp) : List (List Key × V) → List (κ × β) → Prop
  | nil : Ents K H [] []
  | cons {k : κ} {b : β} {v : V} {kvs : List (List Key × V)} {l : List (κ × β)} : Im K H v (enc b) [] → Ents K H kvs l → Ents K H ((TK.key k, v) :: kvs) ((k, b) :: l)
variable {K : PySem.W.Frag} {H H' : Hp}
theorem Ents.to : ∀ {kvs : List (List Key × V)} {l : List (κ × β)}, Ents K H kvs l → (l.map fun kv => ((enc kv.1, enc kv.2) : PyData × PyData)).map Prod.fst = kvs.map (fun kv => .tuple (kv.1.map kD)) ∧ ImA K H (kvs.map Prod.snd) ((l.map fun kv => ((enc kv.1, enc kv.2) : PyData × PyData)).map Prod.snd) []
  | _, _, .nil => ⟨rfl, .nil⟩
  | _, _, .cons h1 h2 => by
    obtain ⟨h3, h4⟩ := Ents.to h2
    refine ⟨?_, .cons h1 h4 rfl⟩
    rw [List.map_cons, List.map_cons, List.map_cons, h3]
    congr 1
    exact TK.en _
theorem Ents.stab (ht : ∀ b xs, TupR H b xs → TupR H' b xs) : ∀ {kvs : List (List Key × V)} {l : List (κ × β)}, Ents K H kvs l → Ents K H' kvs l
  | _, _, .nil => .nil
  | _, _, .cons h1 h2 => .cons (Im.stab ht _ _ _ h1 fun b hb => absurd hb List.not_mem_nil) (h2.stab ht)
theorem Ents.any {k : κ} : ∀ {kvs : List (List Key × V)} {l : List (κ × β)}, Ents K H kvs l → (kvs.any fun kv => decide (kv.1 = TK.key k)) = l.any fun kv => decide (kv.1 = k)
  | _, _, .nil => rfl
  | _, _, .cons (k := k2) h1 h2 => by
    rw [List.any_cons, List.any_cons, h2.any]
    congr 1
    by_cases e : k2 = k
    · subst e; simp
    · rw [decide_eq_false e, decide_eq_false fun z => e (TK.inj _ _ z)]
theorem Ents.put {k : κ} {v : V} {b : β} (hv : Im K H v (enc b) []) {kvs : List (List Key × V)} {l : List (κ × β)} (h : Ents K H kvs l) : Ents K H (putK kvs (TK.key k) v) (dPut l k b) := by
  unfold putK dPut
  rw [h.any]
  by_cases c : (l.any fun kv => decide (kv.1 = k)) = true
  · rw [if_pos c, if_pos c]
    clear c
    induction h with
    | nil => exact .nil
    | @cons k2 b2 v2 kvs l h1 h2 ih =>
      rw [List.map_cons, List.map_cons]
      by_cases e : k2 = k
      · subst e
        rw [if_pos rfl, if_pos rfl]
        exact .cons hv ih
      · rw [if_neg e, if_neg fun z => e (TK.inj _ _ z)]
        exact .cons h1 ih
  · rw [if_neg c, if_neg c]
    clear c
    induction h with
    | nil => exact .cons hv .nil
    | cons h1 h2 ih => exact .cons h1 ih
theorem Ents.get {k : κ} {b : β} : ∀ {kvs : List (List Key × V)} {l : List (κ × β)}, Ents K H kvs l → dGet l k = some b → ∃ v, valV kvs (TK.key k) = some v ∧ Im K H v (enc b) []
  | _, _, .nil, e => by cases e
  | _, _, .cons (k := k2) (v := v2) h1 h2, e => by
    unfold dGet at e
    rw [List.find?_cons] at e
    by_cases c : k2 = k
    · subst c
      simp at e
      subst e
      exact ⟨v2, valV_pos rfl, h1⟩
    · rw [decide_eq_false (by exact c)] at e
      obtain ⟨v, h3, h4⟩ := h2.get (b := b) (k := k) e
      refine ⟨v, ?_, h4⟩
      unfold valV at h3 ⊢
      rw [List.find?_cons, decide_eq_false (show ¬ TK.key k2 = TK.key k from fun z => c (TK.inj _ _ z))]
      exact h3
theorem Ents.len : ∀ {kvs : List (List Key × V)} {l : List (κ × β)}, Ents K H kvs l → kvs.length = l.length
  | _, _, .nil => rfl
  | _, _, .cons h1 h2 => by rw [List.length_cons, List.length_cons, h2.len]
theorem Ents.at {k : List Key} {v : V} : ∀ {kvs : List (List Key × V)} {l : List (κ × β)} {i : Nat}, Ents K H kvs l → kvs[i]? = some (k, v) → ∃ x, l[i]? = some x ∧ TK.key x.1 = k
  | _, _, 0, .nil, e => by cases e
  | _, _, i + 1, .nil, e => by cases e
  | _, _, 0, .cons h1 h2, e => by cases e; exact ⟨_, rfl, rfl⟩
  | _, _, i + 1, .cons h1 h2, e => h2.at e
end
section
variable {K : PySem.W.Frag} {T : List (Addr × Str)} {ρ : List Sl}
variable {κ α β : Type} [Enc κ] [Enc α] [Enc β] [TK κ]
end
section
variable {K : PySem.W.Frag} {T : List (Addr × Str)} {ρ : List Sl} {C : Option Addr → Prop}
variable {κ α β R S B : Type} [Enc κ] [Enc α] [Enc β] [Enc R] [TK κ] {ρn : S → List Sl} {ρb : B → List Sl}
end
end Bf
namespace Bf
open PySem PySem.Spec PyProof.Rows L2
/-! ### zip of two tuples and a list -/
end Bf
namespace Bf
open PySem PySem.Spec PyProof.Rows L2 LamX NdefX
section
variable {K : PySem.W.Frag} {T : List (Addr × Str)} {ρ : List Sl}
variable {κ α β : Type} [Enc κ] [Enc α] [Enc β] [TK κ]
end
section
variable {K : PySem.W.Frag} {T : List (Addr × Str)} {ρ : List Sl}
variable {α β γ : Type} [Enc α] [Enc β] [Enc γ]
end
end Bf
namespace Bf
open PySem PySem.Spec PyProof.Rows L2 LamX NdefX
/-! ## xs[::e], e one of 1, -1; list(d); chained comparisons of whole numbers -/
section
variable {K : PySem.W.Frag} {T : List (Addr × Str)} {ρ : List Sl}
variable {κ α β : Type} [Enc κ] [Enc α] [Enc β] [TK κ]
end
end Bf
namespace Bf
open PySem PySem.Spec PyProof.Rows L2 LamX NdefX
/-! ## sum(list): numbers, or numbers where None might stand -/
section
variable {K : PySem.W.Frag}
end
end Bf
namespace Bf
open PySem PySem.Spec PyProof.Rows L2 LamX NdefX
/-! ## how many unlike ones -/
section
variable {α : Type} [DecidableEq α]
end
/-! ### set of a tuple of tuples of whole numbers -/
section
variable {P : Program} {w : World} {A : Around} {E : Value → Shared → Prop} {s : Shared}
structure FilledT (P : Program) (w : World) (S : Addr) (ks : List (Addr × List Int)) (s s' : Shared) : Prop where
  set : ∃ L, SetT0 P w s'.heap S L ∧ Got ks ks.length L
  keep : ∀ b o, b ≠ S → s.heap.get? b = some o → s'.heap.get? b = some o
  gens : s'.gens = s.gens
  drawn : s'.drawn = s.drawn
  os : s'.os = s.os
end
section
variable {X : Cx}
end
end Bf
namespace Bf
open PySem PySem.Spec PyProof.Rows L2 LamX NdefX
/-! ## len(set(xs)) -/
section
variable {P : Program} {w : World} {K : PySem.W.Frag} {T : List (Addr × Str)} {ρ : List Sl}
def castL (xs : List Nat) : List Int := xs.map fun (n : Nat) => (n : Int)
theorem rows_of {H : Hp} : ∀ {xs : List (List Nat)} {vs : List V} {fp : List Addr}, ImA K H vs (xs.map enc) fp → ∃ ks : List (Addr × List Int), vs = ks.map (fun p => V.ref p.1) ∧ ks.map (·.2) = xs.map castL ∧ ∀ p ∈ ks, TupR H p.1 (p.2.map V.int)
  | [], _, _, h => by
    cases h
    exact ⟨[], rfl, rfl, fun p hp => absurd hp List.not_mem_nil⟩
  | x :: xs, _, _, h => by
    cases h with
    | cons a b q =>
      obtain ⟨c, rfl, hT⟩ := im_nv a
      obtain ⟨ks, e1, e2, e3⟩ := rows_of b
      refine ⟨(c, castL x) :: ks, by rw [e1]; rfl, by rw [List.map_cons, e2]; rfl, fun p hp => ?_⟩
      rcases List.mem_cons.mp hp with z | z
      · subst z
        show TupR H c ((castL x).map V.int)
        unfold castL
        rw [← nv_map]
        exact hT
      · exact e3 p z
end
end Bf
namespace Bf
open PySem PySem.Spec PyProof.Rows L2 LamX NdefX
/-! ## sorted(tuple of whole numbers) -/
section
variable {prog : Program} {w : World} {A : Around} {E : Value → Shared → Prop} {s : Shared}
open SrtO in
end
section
variable {K : PySem.W.Frag}
end
end Bf
namespace Bf
open PySem PySem.Spec PyProof.Rows L2 LamX NdefX
/-! ## repr of a number; zip of a list that is borrowed and a new one -/
def repN (n : Nat) : Str := toString ((n : Nat) : Int)
section
variable {K : PySem.W.Frag} {T : List (Addr × Str)} {ρ : List Sl} {α β : Type} [Enc α] [Enc β]
theorem ri_zipLB [Pu α] [Pu β] {i : Nat} {xs : Lst α} {u : TE} {m2 : M (Lst β)} (h3 : ρ[i]? = some (.bor (enc xs))) (h2 : RE K T u ρ true m2) : RI K T (_root_.RZ.iZipA K (tCons (tVar i) (tCons u tNil))) ρ (bindW m2 fun ys => retW (xs.l.zip ys.l)) := fun Bs po φ σ H n st P p R q => by
  obtain ⟨v0, e0, _, _⟩ := st.sl i _ h3
  refine ⟨v0, e0, h2 Bs po φ σ H n st _ p _ fun ys n2 w H2 fq pb a2 i2 g2 => ?_⟩
  have st2 := st.af a2
  obtain ⟨v3, e3a, i3, e3b⟩ := st2.sl i _ h3
  rw [e0] at e3a
  cases e3a
  obtain ⟨a, vs, f1, rfl, hT, hA, e1⟩ := im_lst i3
  obtain ⟨b, ws, f2, rfl, hT2, hA2, e2⟩ := im_lst i2
  have z1 := ima_pu hA
  have z2 := ima_pu hA2
  subst z1 z2 e2
  have ha : a ∈ φ i := by rw [e1]; exact List.mem_cons_self
  have hl := hA.len
  have hl2 := hA2.len
  rw [List.length_map] at hl hl2
  refine ⟨a, b, vs, ws, rfl, .inl ⟨.inl (.inl hT), .inl (.inl hT2), q (xs.l.zip ys.l) n2 _ H2 [a, b] pb a2 ⟨⟨fun H => (H a = some (.lst vs) ∧ ImA K H vs (xs.l.map enc) []) ∧ H b = some (.lst ws) ∧ ImA K H ws (ys.l.map enc) [], YPair (fun i => vs[i]?) (fun i => ws[i]?), ?_, ⟨⟨hT, hA⟩, hT2, hA2⟩, fun H H' hl' ht _ g => ⟨⟨hl' _ (by simp) _ g.1.1, ima_stay g.1.2 ht⟩, hl' _ (by simp) _ g.2.1, ima_stay g.2.2 ht⟩, fun i H x H' hi g y => ?_⟩, fun c hc => ?_⟩ (fun c hc => ?_) fun c hc => ?_⟩⟩
  · exact (walk_zip (n := (xs.l.zip ys.l).length) (by rw [List.length_zip, hl, hl2])).mono (fun H g => ⟨.inl (.inl g.1.1), .inl (.inl g.2.1)⟩) fun i H x H' _ _ y => y
  · obtain ⟨Tp, vx, vy, rfl, nT, rfl, ex, ey⟩ := y
    rw [List.length_zip] at hi
    obtain ⟨c, h1, h2⟩ := yat_im g.1.2 (by omega) ex
    obtain ⟨d, h3, h4⟩ := yat_im g.2.2 (by omega) ey
    obtain ⟨s, im⟩ := pair_im (H' := H) nT h2 h4
    exact ⟨(c, d), by rw [List.getElem?_zip_eq_some]; exact ⟨h1, h3⟩, s, im⟩
  · simp only [List.mem_cons, List.not_mem_nil, or_false] at hc
    rcases hc with rfl | rfl
    · exact ⟨_, hT⟩
    · exact ⟨_, hT2⟩
  · simp only [List.mem_cons, List.not_mem_nil, or_false] at hc
    rcases hc with rfl | rfl
    · exact (e3b _ ha).1
    · exact g2.1 _ List.mem_cons_self
  · simp only [List.mem_cons, List.not_mem_nil, or_false] at hc
    rcases hc with rfl | rfl
    · exact .inl (e3b _ ha).2
    · exact .inr ((g2.2 rfl).2 _ List.mem_cons_self)
end
end Bf
namespace Bf
open PySem PySem.Spec PyProof.Rows L2 LamX NdefX
/-! ## dicts with tuples for keys: by a comprehension, setdefault -/
section
variable {X : Cx} {pins : List (Addr × Obj)} {σ : L2.St} {H : Hp} {s : Shared} {D kb : Addr} {kvs : List (List Key × V)} {k : List Key} {v : V} {r : Value}
end
section
variable {X : Cx} {kx vx tg iter : Expr} {ifs : List Expr} {scope : Scope} {own : List (Str × Nat)} {pos : Pos} {wi : TI} {g : TG} {tt : TT} {tk tv : TE}
end
end Bf
namespace Bf
open PySem PySem.Spec PyProof.Rows L2 LamX NdefX
/-! ## dicts with pairs for keys in the layer -/
instance : TK (Nat × Nat) where
  key := fun x => [.inl (x.1 : Int), .inl (x.2 : Int)]
  dec := inferInstance
  inj := fun x y h => by
    obtain ⟨a, b⟩ := x
    obtain ⟨c, d⟩ := y
    simp only [List.cons.injEq, Sum.inl.injEq, and_true] at h
    obtain ⟨h1, h2⟩ := h
    have e1 : a = c := by omega
    have e2 : b = d := by omega
    rw [e1, e2]
  en := fun _ => rfl
  obj := fun h => by
    cases h with
    | tup e b =>
      obtain ⟨v1, v2, f1, f2, rfl, h1, h2, _⟩ := ima2 b
      cases h1
      cases h2
      exact ⟨_, rfl, e⟩
  back := fun h => .tup h (.cons (.int _) (.cons (.int _) .nil rfl) rfl)
section
variable {K : PySem.W.Frag} {T : List (Addr × Str)} {ρ : List Sl} {Bs : Addr → HO → Prop} {po : Option Addr} {φ : Nat → List Addr} {σ : L2.St} {H H1 : Hp} {n n1 : Nat}
variable {κ α β : Type} [Enc κ] [Enc α] [Enc β] [TK κ]
def IsSl (ρ : List Sl) (i : Nat) (d : PyData) : Prop := ρ[i]? = some (.own d) ∨ ρ[i]? = some (.bor d) ∨ ρ[i]? = some (.lkd d)
theorem IsSl.o {i : Nat} {d : PyData} (h : ρ[i]? = some (.own d)) : IsSl ρ i d := .inl h
theorem IsSl.b {i : Nat} {d : PyData} (h : ρ[i]? = some (.bor d)) : IsSl ρ i d := .inr (.inl h)
theorem IsSl.l {i : Nat} {d : PyData} (h : ρ[i]? = some (.lkd d)) : IsSl ρ i d := .inr (.inr h)
end
/-! ### d.setdefault(k, v) as a statement -/
section
variable {κ β : Type} [Enc κ] [Enc β] [TK κ]
variable {K : PySem.W.Frag} {T : List (Addr × Str)} {ρ : List Sl} {C : Option Addr → Prop}
variable {α R S B : Type} [Enc α] [Enc R] {ρn : S → List Sl} {ρb : B → List Sl}
end
/-! ### a comprehension that makes a dict -/
section
variable {α κ β : Type}
end
section
variable {K : PySem.W.Frag} {T : List (Addr × Str)} {ρ : List Sl}
variable {α κ β : Type} [Enc α] [Enc κ] [Enc β] [TK κ]
end
end Bf
namespace Bf
open PySem PySem.Spec PyProof.Rows L2 LamX NdefX
/-! ## what is told of a plan -/
inductive Vd where
  | wrong (a b : Nat)
  | lacks (a b : Nat)
  | done (n : Int)
deriving DecidableEq
def Vd.en : Vd → PyData
  | .wrong a b => .tuple [.str "wrong", .int a, .int b]
  | .lacks a b => .tuple [.str "lacks", .int a, .int b]
  | .done n => .tuple [.str "done", .int n]
instance : Enc Vd := ⟨Vd.en⟩
instance : Pu Vd := ⟨fun {K H v a fp} h => by
  cases a with
  | wrong a b =>
    cases h with
    | tup e z => obtain ⟨v, w, u, f1, f2, f3, rfl, h1, h2, h3, rfl⟩ := ima3 z; cases h1; cases h2; cases h3; rfl
  | lacks a b =>
    cases h with
    | tup e z => obtain ⟨v, w, u, f1, f2, f3, rfl, h1, h2, h3, rfl⟩ := ima3 z; cases h1; cases h2; cases h3; rfl
  | done n =>
    cases h with
    | tup e z => obtain ⟨v, w, f1, f2, rfl, h1, h2, rfl⟩ := ima2 z; cases h1; cases h2; rfl⟩
instance : Tpl Vd := ⟨fun a => by cases a <;> exact ⟨_, rfl⟩⟩
instance : Shp Vd := ⟨1, fun a => by cases a <;> (show (_ && _) = true; rw [Bool.and_eq_true]; exact ⟨by decide +kernel, rfl⟩), fun a => by cases a <;> rfl, fun a => by cases a <;> exact Nat.le_refl _⟩
instance : Eqv Vd := ⟨fun x y => by
  have e1 : (("wrong" : Str) == ("lacks" : Str)) = false := by decide +kernel
  have e2 : (("wrong" : Str) == ("done" : Str)) = false := by decide +kernel
  have e3 : (("lacks" : Str) == ("wrong" : Str)) = false := by decide +kernel
  have e4 : (("lacks" : Str) == ("done" : Str)) = false := by decide +kernel
  have e5 : (("done" : Str) == ("wrong" : Str)) = false := by decide +kernel
  have e6 : (("done" : Str) == ("lacks" : Str)) = false := by decide +kernel
  have no : ∀ (x y : Str) (ds es : List PyData), (x == y) = false → PyData.eqv (.tuple (.str x :: ds)) (.tuple (.str y :: es)) = true → False := fun x y ds es e h => by
    have h : ((x == y) && PyData.eqvAll ds es) = true := h
    rw [e] at h
    cases h
  have two : ∀ a b c d : Nat, ((((a : Nat) : Int) == ((c : Nat) : Int)) && ((((b : Nat) : Int) == ((d : Nat) : Int)) && true)) = true ↔ a = c ∧ b = d := fun a b c d => by
    rw [Bool.and_true, Bool.and_eq_true, beq_iff_eq, beq_iff_eq]
    omega
  cases x with
  | wrong a b =>
    cases y with
    | wrong c d =>
      show (("wrong" : Str) == ("wrong" : Str) && _) = true ↔ _
      rw [beq_self_eq_true, Bool.true_and]
      exact (two a b c d).trans ⟨fun h => by rw [h.1, h.2], fun h => (by cases h; exact ⟨rfl, rfl⟩)⟩
    | lacks c d => exact ⟨fun h => (no _ _ _ _ e1 h).elim, fun h => nomatch h⟩
    | done n => exact ⟨fun h => (no _ _ _ _ e2 h).elim, fun h => nomatch h⟩
  | lacks a b =>
    cases y with
    | wrong c d => exact ⟨fun h => (no _ _ _ _ e3 h).elim, fun h => nomatch h⟩
    | lacks c d =>
      show (("lacks" : Str) == ("lacks" : Str) && _) = true ↔ _
      rw [beq_self_eq_true, Bool.true_and]
      exact (two a b c d).trans ⟨fun h => by rw [h.1, h.2], fun h => (by cases h; exact ⟨rfl, rfl⟩)⟩
    | done n => exact ⟨fun h => (no _ _ _ _ e4 h).elim, fun h => nomatch h⟩
  | done m =>
    cases y with
    | wrong c d => exact ⟨fun h => (no _ _ _ _ e5 h).elim, fun h => nomatch h⟩
    | lacks c d => exact ⟨fun h => (no _ _ _ _ e6 h).elim, fun h => nomatch h⟩
    | done n =>
      show (("done" : Str) == ("done" : Str) && ((m == n) && true)) = true ↔ _
      rw [beq_self_eq_true, Bool.true_and, Bool.and_true, beq_iff_eq]
      exact ⟨fun h => by rw [h], fun h => (by cases h; rfl)⟩⟩
def Vd.nm : Vd → Str
  | .wrong _ _ => "wrong"
  | .lacks _ _ => "lacks"
  | .done _ => "done"
section
variable {K : PySem.W.Frag} {T : List (Addr × Str)} {ρ : List Sl}
end
/-! ## dicts with whole numbers for keys -/
structure DcN (β : Type) where
  l : List (Nat × β)
instance {β : Type} [Enc β] : Enc (DcN β) := ⟨fun d => .dict ((.none, .none) :: d.l.map fun kv => (.int (kv.1 : Int), enc kv.2))⟩
section
variable {β : Type} [Enc β]
def kPut (l : List (Nat × β)) (k : Nat) (v : β) : List (Nat × β) := if (l.any fun kv => decide (kv.1 = k)) = true then l.map (fun kv => if kv.1 = k then (kv.1, v) else kv) else l ++ [(k, v)]
abbrev nK (n : Nat) : Key := .inl (n : Int)
theorem nK_inj {a b : Nat} (h : nK a = nK b) : a = b := by
  have := Sum.inl.inj h
  omega
inductive EntN (K : PySem.W.Frag) (H : Hp) : List (Key × V) → List (Nat × β) → Prop
  | nil : EntN K H [] []
  | cons {k : Nat} {b : β} {v : V} {kvs : List (Key × V)} {l : List (Nat × β)} : Im K H v (enc b) [] → EntN K H kvs l → EntN K H ((nK k, v) :: kvs) ((k, b) :: l)
variable {K : PySem.W.Frag} {H H' : Hp}
theorem EntN.to : ∀ {kvs : List (Key × V)} {l : List (Nat × β)}, EntN K H kvs l → (l.map fun kv => ((.int (kv.1 : Int), enc kv.2) : PyData × PyData)).map Prod.fst = kvs.map (fun kv => kD kv.1) ∧ ImA K H (kvs.map Prod.snd) ((l.map fun kv => ((.int (kv.1 : Int), enc kv.2) : PyData × PyData)).map Prod.snd) []
  | _, _, .nil => ⟨rfl, .nil⟩
  | _, _, .cons h1 h2 => by
    obtain ⟨h3, h4⟩ := EntN.to h2
    refine ⟨?_, .cons h1 h4 rfl⟩
    rw [List.map_cons, List.map_cons, List.map_cons, h3]
    rfl
theorem EntN.stab (ht : ∀ b xs, TupR H b xs → TupR H' b xs) : ∀ {kvs : List (Key × V)} {l : List (Nat × β)}, EntN K H kvs l → EntN K H' kvs l
  | _, _, .nil => .nil
  | _, _, .cons h1 h2 => .cons (Im.stab ht _ _ _ h1 fun b hb => absurd hb List.not_mem_nil) (h2.stab ht)
theorem EntN.any {k : Nat} : ∀ {kvs : List (Key × V)} {l : List (Nat × β)}, EntN K H kvs l → (kvs.any fun kv => decide (kv.1 = nK k)) = l.any fun kv => decide (kv.1 = k)
  | _, _, .nil => rfl
  | _, _, .cons (k := k2) h1 h2 => by
    rw [List.any_cons, List.any_cons, h2.any]
    congr 1
    by_cases e : k2 = k
    · subst e; simp
    · rw [decide_eq_false e, decide_eq_false fun z => e (nK_inj z)]
theorem EntN.put {k : Nat} {v : V} {b : β} (hv : Im K H v (enc b) []) {kvs : List (Key × V)} {l : List (Nat × β)} (h : EntN K H kvs l) : EntN K H (putK kvs (nK k) v) (kPut l k b) := by
  unfold putK kPut
  rw [h.any]
  by_cases c : (l.any fun kv => decide (kv.1 = k)) = true
  · rw [if_pos c, if_pos c]
    clear c
    induction h with
    | nil => exact .nil
    | @cons k2 b2 v2 kvs l h1 h2 ih =>
      rw [List.map_cons, List.map_cons]
      by_cases e : k2 = k
      · subst e
        rw [if_pos rfl, if_pos rfl]
        exact .cons hv ih
      · rw [if_neg e, if_neg fun z => e (nK_inj z)]
        exact .cons h1 ih
  · rw [if_neg c, if_neg c]
    clear c
    induction h with
    | nil => exact .cons hv .nil
    | cons h1 h2 ih => exact .cons h1 ih
theorem EntN.len : ∀ {kvs : List (Key × V)} {l : List (Nat × β)}, EntN K H kvs l → kvs.length = l.length
  | _, _, .nil => rfl
  | _, _, .cons h1 h2 => by rw [List.length_cons, List.length_cons, h2.len]
end
section
variable {K : PySem.W.Frag} {T : List (Addr × Str)} {ρ : List Sl} {Bs : Addr → HO → Prop} {po : Option Addr} {φ : Nat → List Addr} {σ : L2.St} {H H1 : Hp} {n n1 : Nat}
variable {α β : Type} [Enc α] [Enc β]
end
section
variable {K : PySem.W.Frag} {T : List (Addr × Str)} {ρ : List Sl} {C : Option Addr → Prop}
variable {α β R S B : Type} [Enc α] [Enc β] [Enc R] {ρn : S → List Sl} {ρb : B → List Sl}
end
end Bf
namespace Bf
open PySem PySem.Spec PyProof.Rows L2 LamX NdefX
/-! ## calls by names with the last parameter left out -/
def gD {α : Type} (n : Nat) (π : List Nat) (z : α) (us ws : List α) : List α := gN n π us ws ++ [z]
end Bf
namespace Bf
open PySem PySem.Spec PyProof.Rows L2 LamX NdefX
/-! ## xs.extend(new list), xs.insert(j, x) -/
section
variable {K : PySem.W.Frag} {T : List (Addr × Str)} {ρ : List Sl}
variable {α β : Type} [Enc α] [Enc β]
variable {R B S : Type} [Enc R] {C : Option Addr → Prop}
variable {ρn : S → List Sl} {ρb : B → List Sl}
/-- xs.extend(ys), ys new -/
theorem rb_extend [Pu α] {te : TE} {tu : TS} {i : Nat} {xs : Lst α} {m : M (Lst α)} {k : Lst α → M (Ctl R B S)} {ρ2 : Lst α → List Sl} {f : Bool} (hi : ρ[i]? = some (.own (enc xs))) (he : RE K T te ρ f m) (e : ∀ ys : Lst α, ρ.set i (.own (enc (⟨xs.l ++ ys.l⟩ : Lst α))) = ρ2 ys) (hu : ∀ ys, RB K T C tu (ρ2 ys) (k ys) ρn ρb) :
    RB K T C (tSeq (tDrop (tBM K "list" rExtend (tVar i) (tCons te tNil))) tu) ρ (bindW m fun ys => reqW (xs.l.length + ys.l.length ≤ sizeLine) (k ys)) ρn ρb := fun Bs po hC σ H n ⟨φ, st⟩ P p D h1 h2 h3 => by
  obtain ⟨v, e1, e2, e3, e4⟩ := st.sl i _ hi
  obtain ⟨a, vs, fq, rfl, hT, hA, eφ⟩ := im_lst e2
  refine ⟨_, e1, .inl ⟨rfl, vs, .inl (.inl hT)⟩, he Bs po φ σ H n st _ p _ fun ys n1 w H1 fp pa a1 im g => ?_⟩
  obtain ⟨b, ws, fr, rfl, hT2, hA2, eψ⟩ := im_lst im
  have z := ima_pu hA2
  subst z
  have z := ima_pu hA
  subst z
  have st1 := st.af a1
  have ha : a ∈ φ i := by rw [eφ]; exact List.mem_cons_self
  have hT1 := a1.fr.keep a _ (e4 a ha).1 hT fun ps z => nomatch z
  have hA1 := hA.af (po := po) (fun b hb => absurd hb List.not_mem_nil) a1.fr
  have hl := hA.len
  have hl2 := hA2.len
  rw [List.length_map] at hl hl2
  refine ⟨a, b, vs, ws, rfl, rfl, hT1, hT2, by rw [hl, hl2]; exact pa.1, ?_⟩
  have tup : ∀ c us, TupR H1 c us → TupR (upd H1 a (.lst (vs ++ ws))) c us := fun c us z => by
    unfold TupR at z ⊢
    rw [upd_ne (fun q => by rw [q, hT1] at z; cases z)]
    exact z
  obtain ⟨st2, tp⟩ := st1.write (d' := enc (⟨xs.l ++ ys.l⟩ : Lst α)) (vs' := vs ++ ws) hi e1 ha hT1 (by
    rw [eφ]
    refine .lst upd_same ?_ rfl
    show ImA K _ (vs ++ ws) ((xs.l ++ ys.l).map enc) []
    rw [List.map_append]
    exact ImA.stab tup _ _ _ (hA1.app hA2) fun b hb => absurd hb List.not_mem_nil)
  rw [e ys] at st2
  exact (hu ys).go (Bs := Bs) hC ⟨φ, st2⟩ pa.2 (fun b o z => z) (Tpk.trans a1.fr.tup tp) h1 h2 h3
end
end Bf
namespace Bf
open PySem PySem.Spec PyProof.Rows L2 LamX NdefX
/-! ## lists of lists -/
section
variable {K : PySem.W.Frag} {H H' : Hp} {α : Type} [Enc α]
inductive NLs (K : PySem.W.Frag) (H : Hp) {α : Type} [Enc α] : List Addr → List (Lst α) → Prop
  | nil : NLs K H [] []
  | cons {b : Addr} {bs : List Addr} {x : Lst α} {xs : List (Lst α)} {ws : List V} : H b = some (.lst ws) → ImA K H ws (x.l.map enc) [] → NLs K H bs xs → NLs K H (b :: bs) (x :: xs)
theorem NLs.len : ∀ {bs : List Addr} {xs : List (Lst α)}, NLs K H bs xs → bs.length = xs.length
  | _, _, .nil => rfl
  | _, _, .cons _ _ h => by rw [List.length_cons, List.length_cons, h.len]
theorem NLs.get : ∀ {bs : List Addr} {xs : List (Lst α)} {j : Nat} {x : Lst α}, NLs K H bs xs → xs[j]? = some x → ∃ b ws, bs[j]? = some b ∧ H b = some (.lst ws) ∧ ImA K H ws (x.l.map enc) []
  | _, _, 0, _, .cons h1 h2 h3, e => by cases e; exact ⟨_, _, rfl, h1, h2⟩
  | _, _, j + 1, _, .cons h1 h2 h3, e => h3.get (j := j) e
  | _, _, 0, _, .nil, e => by cases e
  | _, _, j + 1, _, .nil, e => by cases e
theorem NLs.at : ∀ {bs : List Addr} {xs : List (Lst α)} {j : Nat} {b : Addr}, NLs K H bs xs → bs[j]? = some b → ∃ x ws, xs[j]? = some x ∧ H b = some (.lst ws) ∧ ImA K H ws (x.l.map enc) []
  | _, _, 0, _, .cons h1 h2 h3, e => by cases e; exact ⟨_, _, rfl, h1, h2⟩
  | _, _, j + 1, _, .cons h1 h2 h3, e => h3.at (j := j) e
  | _, _, 0, _, .nil, e => by cases e
  | _, _, j + 1, _, .nil, e => by cases e
theorem NLs.stab (ht : ∀ b l, TupR H b l → TupR H' b l) : ∀ {bs : List Addr} {xs : List (Lst α)}, NLs K H bs xs → (∀ b ∈ bs, ∀ l, H b = some (.lst l) → H' b = some (.lst l)) → NLs K H' bs xs
  | _, _, .nil, _ => .nil
  | _, _, .cons h1 h2 h3, h => .cons (h _ List.mem_cons_self _ h1) (ImA.stab ht _ _ _ h2 fun b hb => absurd hb List.not_mem_nil) (h3.stab ht fun b hb => h b (List.mem_cons_of_mem _ hb))
theorem NLs.set : ∀ {bs : List Addr} {xs : List (Lst α)} {j : Nat} {b : Addr} {x : Lst α} {ws : List V}, NLs K H bs xs → H b = some (.lst ws) → ImA K H ws (x.l.map enc) [] → NLs K H (bs.set j b) (xs.set j x)
  | _, _, _, _, _, _, .nil, _, _ => .nil
  | _, _, 0, _, _, _, .cons h1 h2 h3, e1, e2 => .cons e1 e2 h3
  | _, _, j + 1, _, _, _, .cons h1 h2 h3, e1, e2 => .cons h1 h2 (h3.set e1 e2)
/-- one of them changes -/
theorem NLs.put {b : Addr} {x : Lst α} {ws : List V} (ht : ∀ c l, TupR H c l → TupR (upd H b (.lst ws)) c l) (e2 : ImA K (upd H b (.lst ws)) ws (x.l.map enc) []) : ∀ {bs : List Addr} {xs : List (Lst α)} {j : Nat}, NLs K H bs xs → bs.Nodup → bs[j]? = some b → NLs K (upd H b (.lst ws)) bs (xs.set j x)
  | _, _, 0, .cons h1 h2 h3, nd, e => by
    cases e
    have nd := List.nodup_cons.mp nd
    exact .cons upd_same e2 (h3.stab ht fun c hc l z => by rw [upd_ne (fun q => nd.1 (by rw [← q]; exact hc))]; exact z)
  | _, _, j + 1, .cons (b := c) (bs := cs) h1 h2 h3, nd, e => by
    have nd := List.nodup_cons.mp nd
    have e : cs[j]? = some b := e
    have hb := List.mem_of_getElem? e
    exact .cons (by rw [upd_ne (fun q => nd.1 (by rw [q]; exact hb))]; exact h1) (ImA.stab ht _ _ _ h2 fun b hb => absurd hb List.not_mem_nil) (h3.put ht e2 nd.2 e)
  | _, _, 0, .nil, _, e => by cases e
  | _, _, j + 1, .nil, _, e => by cases e
end
section
variable {K : PySem.W.Frag} {T : List (Addr × Str)} {Bs : Addr → HO → Prop} {po : Option Addr} {ρ : List Sl} {φ : Nat → List Addr} {σ : L2.St} {H H' : Hp} {n n' : Nat}
end
section
variable {K : PySem.W.Frag} {T : List (Addr × Str)} {ρ : List Sl}
variable {α β γ : Type} [Enc α] [Enc β] [Enc γ]
end
end Bf
namespace Bf
open PySem PySem.Spec PyProof.Rows L2 LamX NdefX
/-! ## what dicts hold -/
section
variable {κ β : Type} [Enc κ] [TK κ]
variable {α : Type}
end
/-! ## a plan judged -/
abbrev TT := T3 Nat Nat Nat
abbrev KF := Nat × Nat → Option Int
def F0 (s m : Nat) : KF := fun k => if k.1 = s ∧ k.2 < m then some (-1) else none
end Bf
namespace Bf
/-! ### who tells has it -/
end Bf
namespace Bf
/-! ## the ferry's plan judged -/
section
variable {q m s t : Nat}
end
end Bf
namespace Bf
/-! ## another way to judge -/
/-- what stands of the first hearings -/
structure FOk (m : Nat) (i : Int) (F : KF) : Prop where
  lt : ∀ k v, F k = some v → v < i
  ge : ∀ k v, F k = some v → -1 ≤ v
  few : ∀ k v, F k = some v → k.2 < m
theorem FOk.up {m : Nat} {i : Nat} {F : KF} (h : FOk m (i : Int) F) : FOk m ((i : Int) + 1) F := ⟨fun k v e => by have := h.lt k v e; omega, h.ge, h.few⟩
end Bf
namespace Bf
open PySem
/-! ## what is told is small -/
end Bf
namespace Bf
open PySem PySem.Spec PyProof.Rows L2 LamX NdefX
section
variable {K : PySem.W.Frag} {T : List (Addr × Str)} {ρ : List Sl} {C : Option Addr → Prop}
variable {α β γ δ R S B : Type} [Enc α] [Enc β] [Enc γ] [Enc R] {ρn : S → List Sl} {ρb : B → List Sl}
/-! ### a list in a list of lists -/
/-! ### max, sorted -/
/-! ### pop, remove -/
end
end Bf
namespace Bf
open PySem PySem.Spec PyProof.Rows L2 LamX NdefX
section
variable {K : PySem.W.Frag} {T : List (Addr × Str)} {ρ : List Sl} {C : Option Addr → Prop}
variable {α δ R S B : Type} [Enc α] [Enc R] {ρn : S → List Sl} {ρb : B → List Sl}
end
end Bf
namespace Bf
open PySem PySem.Spec PyProof.Rows L2 LamX NdefX
section
variable {X : Cx} {kx vx tg iter : Expr} {ifs : List Expr} {scope : Scope} {own : List (Str × Nat)} {pos : Pos} {wi : TI} {g : TG} {tt : L2.TT} {tk tv : TE}
end
/-! ### a comprehension that makes a dict with whole numbers for keys -/
section
variable {α β : Type} [Enc β]
end
section
variable {K : PySem.W.Frag} {T : List (Addr × Str)} {ρ : List Sl}
variable {α β : Type} [Enc α] [Enc β]
end
/-! ### sorted(dict with whole numbers for keys) -/
open SrtO in
section
variable {K : PySem.W.Frag} {T : List (Addr × Str)} {ρ : List Sl}
variable {α β γ : Type} [Enc α] [Enc β]
/-! ### a truth in a list of truths -/
/-! ### a def called with a pot that is new -/
end
end Bf
namespace Bf
open PySem PySem.Spec PyProof.Rows L2 LamX NdefX
/-! ## loops whose items are lists that others hold, too -/
section
variable {K : PySem.W.Frag} {T : List (Addr × Str)} {ρ : List Sl} {Bs : Addr → HO → Prop} {po : Option Addr} {φ : Nat → List Addr} {σ : L2.St} {H H1 : Hp} {n n1 : Nat}
structure ItOkS (K : PySem.W.Frag) (J : It) (H1 : Hp) {α : Type} [Enc α] (xs : List α) (fi : List Addr) : Prop where
  ex : ∃ (G : Hp → Prop) (Y : Nat → Hp → V → Hp → Prop), Walk J xs.length G Y ∧ G H1 ∧ (∀ H H' : Hp, (∀ b ∈ fi, ∀ o, H b = some o → Mtb o → H' b = some o) → (∀ b l, TupR H b l → TupR H' b l) → G H → G H') ∧
    ∀ i H x H', i < xs.length → G H → Y i H x H' → ∃ a fa, xs[i]? = some a ∧ Same H H' ∧ Im K H' x (enc a) fa ∧ ∀ b ∈ fa, b ∈ fi
  mtb : ∀ b ∈ fi, ∃ o, H1 b = some o ∧ Mtb o
variable {α : Type} [Enc α]
end
section
variable {K : PySem.W.Frag} {T : List (Addr × Str)} {ρ : List Sl} {C : Option Addr → Prop}
variable {α β γ R S S2 B : Type} [Enc α] [Enc R] {ρn : S → List Sl} {ρb : B → List Sl}
end
end Bf
namespace Bf
open PySem PySem.Spec PyProof.Rows L2 LamX NdefX
section
variable {K : PySem.W.Frag} {T : List (Addr × Str)} {ρ : List Sl} {C : Option Addr → Prop}
variable {α β γ R S S2 B : Type} [Enc α] [Enc β] [Enc R] {ρn : S → List Sl} {ρb : B → List Sl}
end
end Bf
namespace Bf
open PySem PySem.Spec PyProof.Rows L2 LamX NdefX
section
variable {K : PySem.W.Frag} {T : List (Addr × Str)} {ρ : List Sl} {α β : Type} [Enc α] [Enc β]
end
end Bf
namespace Bf
open PySem PySem.Spec PyProof.Rows L2 LamX NdefX
section
variable {K : PySem.W.Frag} {T : List (Addr × Str)} {ρ : List Sl} {α : Type} [Enc α]
variable {β : Type} [Enc β]
end
end Bf
namespace Bf
open PySem PySem.Spec PyProof.Rows L2 LamX NdefX
/-! ## objects: data by fields -/
def obF (ns : List Str) (ds : List PyData) : List (PyData × PyData) := List.zipWith (fun n d => (.str n, d)) ns ds
/-- mk: .bool true, or the object's own place -/
def obD (mk : PyData) (cn : Str) (ns : List Str) (ds : List PyData) : PyData := .dict ((mk, .str cn) :: obF ns ds)
theorem obF_fst : ∀ {ns : List Str} {ds : List PyData}, ns.length = ds.length → (obF ns ds).map Prod.fst = ns.map .str
  | [], [], _ => rfl
  | n :: ns, d :: ds, h => by
    show (PyData.str n) :: (obF ns ds).map Prod.fst = _
    rw [obF_fst (Nat.succ.inj h)]
    rfl
theorem obF_snd : ∀ {ns : List Str} {ds : List PyData}, ns.length = ds.length → (obF ns ds).map Prod.snd = ds
  | [], [], _ => rfl
  | n :: ns, d :: ds, h => by
    show d :: (obF ns ds).map Prod.snd = _
    rw [obF_snd (Nat.succ.inj h)]
section
variable {K : PySem.W.Frag} {H H' : Hp}
/-- an object as it stands -/
structure ObAt (K : PySem.W.Frag) (H : Hp) (a : Addr) (mk : PyData) (cn : Str) (ns : List Str) (ds : List PyData) (dx : Addr) (fs : List (Str × V)) (fp : List Addr) : Prop where
  mkr : mk = .bool true ∨ mk = .int (a : Int)
  at_ : H a = some (.ins (He.ga K cn) dx fs)
  nm : fs.map Prod.fst = ns
  it : ImA K H (fs.map Prod.snd) ds fp
theorem ObAt.im {a : Addr} {mk : PyData} {cn : Str} {ns : List Str} {ds : List PyData} {dx : Addr} {fs : List (Str × V)} {fp : List Addr} (h : ObAt K H a mk cn ns ds dx fs fp) (hl : ns.length = ds.length) : Im K H (.ref a) (obD mk cn ns ds) (a :: fp) := by
  refine .ins h.mkr h.at_ ?_ (obF_snd hl) h.it rfl
  rw [obF_fst hl, ← h.nm, List.map_map]
  rfl
theorem ObAt.as {a : Addr} {mk mk' : PyData} {cn : Str} {ns : List Str} {ds : List PyData} {dx : Addr} {fs : List (Str × V)} {fp : List Addr} (h : ObAt K H a mk cn ns ds dx fs fp) (hm : mk' = .bool true ∨ mk' = .int (a : Int)) : ObAt K H a mk' cn ns ds dx fs fp := ⟨hm, h.at_, h.nm, h.it⟩
/-! ### into parts -/
theorem ImA.focus : ∀ {ds : List PyData} {vs : List V} {fp : List Addr} {j : Nat} {d : PyData}, ImA K H vs ds fp → fp.Nodup → ds[j]? = some d → ∃ w fj, vs[j]? = some w ∧ Im K H w d fj ∧ fj.Nodup ∧ (∀ b ∈ fj, b ∈ fp) ∧
    ∀ (H' : Hp) (w' : V) (d' : PyData) (fj' : List Addr), (∀ b xs, TupR H b xs → TupR H' b xs) → (∀ b ∈ fp, b ∉ fj → ∀ o, H b = some o → Mtb o → H' b = some o) → Im K H' w' d' fj' → fj'.Nodup → (∀ b ∈ fj', b ∈ fj ∨ b ∉ fp) → ∃ fp', ImA K H' (vs.set j w') (ds.set j d') fp' ∧ fp'.Nodup ∧ ∀ b ∈ fp', (b ∈ fp ∧ b ∉ fj) ∨ b ∈ fj'
  | [], _, _, _, _, _, _, e => by cases e
  | d0 :: ds, _, _, 0, d, h, nd, e => by
    cases h with
    | cons a b q =>
      rename_i v vs f1 f2
      subst q
      obtain rfl : d0 = d := Option.some.inj e
      obtain ⟨n1, n2, n3⟩ := List.nodup_append.mp nd
      refine ⟨v, f1, rfl, a, n1, fun x hx => List.mem_append_left _ hx, fun H' w' d' fj' ht hk im nd' hf => ?_⟩
      have nin : ∀ x ∈ f2, x ∉ f1 := fun x hx z => n3 x z x hx rfl
      refine ⟨fj' ++ f2, .cons im (ImA.stab ht _ _ _ b fun x hx o => hk x (List.mem_append_right _ hx) (nin x hx) o) rfl, List.nodup_append.mpr ⟨nd', n2, fun x hx y hy exy => ?_⟩, fun x hx => ?_⟩
      · subst exy
        rcases hf x hx with z | z
        · exact nin x hy z
        · exact z (List.mem_append_right _ hy)
      · rcases List.mem_append.mp hx with hx | hx
        · exact .inr hx
        · exact .inl ⟨List.mem_append_right _ hx, nin x hx⟩
  | d0 :: ds, _, _, j + 1, d, h, nd, e => by
    cases h with
    | cons a b q =>
      rename_i v vs f1 f2
      subst q
      obtain ⟨n1, n2, n3⟩ := List.nodup_append.mp nd
      obtain ⟨w, fj, e1, e2, e3, e4, e5⟩ := ImA.focus (j := j) (d := d) b n2 e
      have nin : ∀ x ∈ f1, x ∉ fj := fun x hx z => n3 x hx x (e4 x z) rfl
      refine ⟨w, fj, e1, e2, e3, fun x hx => List.mem_append_right _ (e4 x hx), fun H' w' d' fj' ht hk im nd' hf => ?_⟩
      obtain ⟨fp', g1, g2, g3⟩ := e5 H' w' d' fj' ht (fun x hx => hk x (List.mem_append_right _ hx)) im nd' fun x hx => (hf x hx).imp id fun z y => z (List.mem_append_right _ y)
      refine ⟨f1 ++ fp', .cons (Im.stab ht _ _ _ a fun x hx o => hk x (List.mem_append_left _ hx) (nin x hx) o) g1 rfl, List.nodup_append.mpr ⟨n1, g2, fun x hx y hy exy => ?_⟩, fun x hx => ?_⟩
      · subst exy
        rcases g3 x hy with z | z
        · exact n3 x hx x z.1 rfl
        · rcases hf x z with z | z
          · exact nin x hx z
          · exact z (List.mem_append_left _ hx)
      · rcases List.mem_append.mp hx with hx | hx
        · exact .inl ⟨List.mem_append_left _ hx, nin x hx⟩
        · exact (g3 x hx).imp (fun z => ⟨List.mem_append_right _ z.1, z.2⟩) id
/-- an object's field -/
theorem ObAt.focus {a : Addr} {mk : PyData} {cn : Str} {ns : List Str} {ds : List PyData} {dx : Addr} {fs : List (Str × V)} {fp : List Addr} {j : Nat} {d : PyData} (h : ObAt K H a mk cn ns ds dx fs fp) (nd : (a :: fp).Nodup) (e : ds[j]? = some d) : ∃ w fj, (fs.map Prod.snd)[j]? = some w ∧ Im K H w d fj ∧ fj.Nodup ∧ a ∉ fj ∧ (∀ b ∈ fj, b ∈ fp) ∧
    ∀ (H' : Hp) (w' : V) (d' : PyData) (fj' : List Addr) (fs' : List (Str × V)), (∀ b xs, TupR H b xs → TupR H' b xs) → (∀ b ∈ fp, b ∉ fj → ∀ o, H b = some o → Mtb o → H' b = some o) → H' a = some (.ins (He.ga K cn) dx fs') → fs'.map Prod.fst = ns → fs'.map Prod.snd = (fs.map Prod.snd).set j w' → Im K H' w' d' fj' → fj'.Nodup → (∀ b ∈ fj', b ∈ fj ∨ b ∉ a :: fp) → ∃ fp', ObAt K H' a mk cn ns (ds.set j d') dx fs' fp' ∧ (a :: fp').Nodup ∧ ∀ b ∈ fp', b ∈ fp ∨ b ∈ fj' := by
  obtain ⟨n1, n2⟩ := List.nodup_cons.mp nd
  obtain ⟨w, fj, e1, e2, e3, e4, e5⟩ := h.it.focus n2 e
  refine ⟨w, fj, e1, e2, e3, fun z => n1 (e4 a z), e4, fun H' w' d' fj' fs' ht hk ha hn hs im nd' hf => ?_⟩
  obtain ⟨fp', g1, g2, g3⟩ := e5 H' w' d' fj' ht hk im nd' fun x hx => (hf x hx).imp id fun z y => z (List.mem_cons_of_mem _ y)
  refine ⟨fp', ⟨h.mkr, ha, hn, by rw [hs]; exact g1⟩, List.nodup_cons.mpr ⟨fun z => ?_, g2⟩, fun b hb => (g3 b hb).imp (fun z => z.1) id⟩
  rcases g3 a z with z | z
  · exact n1 z.1
  · rcases hf a z with z | z
    · exact n1 (e4 a z)
    · exact z List.mem_cons_self
end
end Bf
namespace Bf
open PySem PySem.Spec PyProof.Rows L2 LamX NdefX
/-- data that is an object -/
class Ob (α : Type) [Enc α] where
  cn : Str
  ns : List Str
  fl : α → List PyData
  en : ∀ a, enc a = obD (.bool true) cn ns (fl a)
  ln : ∀ a, ns.length = (fl a).length
/-- what a class is -/
structure ClsT (K : PySem.W.Frag) (cn : Str) (ns : List Str) : Prop where
  cl : Cls K (He.ga K cn)
  na : ∀ f ∈ ns, NoAttr K (He.ga K cn) f
section
variable {K : PySem.W.Frag} {T : List (Addr × Str)} {ρ : List Sl} {α β : Type} [Enc α] [Enc β]
/-! ### what is only read, and stands -/
def REB (K : PySem.W.Frag) (T : List (Addr × Str)) (t : TE) (ρ : List Sl) {α : Type} [Enc α] (m : M α) : Prop := ∀ (Bs : Addr → HO → Prop) (po : Option Addr) (φ : Nat → List Addr) (σ : L2.St) (H : Hp) (n : Nat), ST K T Bs po ρ φ σ H n → ∀ P : α → Nat → Prop, m n P →
  ∀ Q : VK, (∀ (a : α) (n' : Nat) (v : V) (H' : Hp) (fp : List Addr), P a n' → Af K T po H n H' n' → Im K H' v (enc a) fp → (∀ b ∈ fp, po ≠ some b ∧ ∃ o, Bs b o) → Q v H') → t σ H Q
theorem reb_bor {i : Nat} {a : α} (hi : ρ[i]? = some (.bor (enc a))) : REB K T (tVar i) ρ (retW a) := fun Bs po φ σ H n st P p Q q => by
  obtain ⟨v, h1, h2, h3⟩ := st.sl i _ hi
  exact ⟨v, h1, q a n v H _ p Af.refl h2 h3⟩
/-! ### items of lists -/
/-! ### going through what is only read -/
theorem ri_reb [Pu α] {t : TE} {m : M (Lst α)} (h : REB K T t ρ m) : RI K T (iList K t) ρ (mapW Lst.l m) := fun Bs po φ σ H n st P p R q =>
  h Bs po φ σ H n st _ p _ fun xs n1 v H1 fp pa a1 im g1 => by
    obtain ⟨a, vs, fq, rfl, hT, hA, e⟩ := im_lst im
    have hl := hA.len
    have := ima_pu hA
    subst this e
    rw [List.length_map] at hl
    refine ⟨a, rfl, ⟨_, .inl (.inl hT)⟩, q xs.l n1 _ H1 [a] pa a1 ⟨⟨fun H => H a = some (.lst vs) ∧ ImA K H vs (xs.l.map enc) [], fun i H x H' => YAt vs i H x H', ?_, ⟨hT, hA⟩, fun H H' hl' ht _ g => ⟨hl' a List.mem_cons_self _ g.1, ima_stay g.2 ht⟩, fun i H x H' hi g y => ?_⟩, fun b hb => by rw [List.mem_singleton.mp hb]; exact ⟨_, hT⟩⟩ (fun b hb => (g1 b hb).1) fun b hb => .inl (g1 b hb).2⟩
    · rw [← hl]
      exact walk_list.mono (fun H g => .inl (.inl g.1)) fun i H x H' _ _ y => y
    · obtain ⟨rfl, e⟩ := y
      obtain ⟨a, h1, h2⟩ := yat_im g.2 hi e
      exact ⟨a, h1, Same.refl _, h2⟩
end
/-! ### names for what is only read -/
section
variable {K : PySem.W.Frag} {T : List (Addr × Str)} {ρ : List Sl} {C : Option Addr → Prop}
variable {α β R S B : Type} [Enc α] [Enc β] [Enc R] {ρn : S → List Sl} {ρb : B → List Sl}
/-! ### a new field, a field anew -/
end
end Bf
namespace Bf
open PySem PySem.Spec PyProof.Rows L2 LamX NdefX
/-! ## a part of what is one's own, changed -/
theorem set_self {α : Type} : ∀ {xs : List α} {j : Nat} {x : α}, xs[j]? = some x → xs.set j x = xs
  | y :: ys, 0, x, h => by cases h; rfl
  | y :: ys, j + 1, x, h => by
    have h : ys[j]? = some x := h
    show y :: ys.set j x = _
    rw [set_self h]
structure SubA (K : PySem.W.Frag) (H : Hp) (v : V) (fp : List Addr) (w : V) (dc : PyData) (fc : List Addr) (ctx : PyData → PyData) : Prop where
  im : Im K H w dc fc
  nd : fc.Nodup
  sub : ∀ b ∈ fc, b ∈ fp
  put : ∀ (H' : Hp) (d' : PyData) (fc' : List Addr), (∀ b xs, TupR H b xs → TupR H' b xs) → (∀ b ∈ fp, b ∉ fc → ∀ o, H b = some o → Mtb o → H' b = some o) → Im K H' w d' fc' → fc'.Nodup → (∀ b ∈ fc', b ∈ fc ∨ b ∉ fp) → ∃ fp', Im K H' v (ctx d') fp' ∧ fp'.Nodup ∧ ∀ b ∈ fp', b ∈ fp ∨ b ∈ fc'
section
variable {K : PySem.W.Frag} {H H1 : Hp} {v w : V} {fp fc : List Addr} {dc : PyData} {ctx : PyData → PyData} {po : Option Addr}
theorem SubA.refl (h : Im K H v dc fp) (nd : fp.Nodup) : SubA K H v fp v dc fp id := ⟨h, nd, fun b hb => hb, fun H' d' fc' _ _ im nd' _ => ⟨fc', im, nd', fun b hb => .inr hb⟩⟩
theorem SubA.af (h : SubA K H v fp w dc fc ctx) (hp : ∀ b ∈ fp, po ≠ some b) (f : Fr K po H H1) (hm : ∀ b ∈ fp, ∃ o, H b = some o ∧ Mtb o) : SubA K H1 v fp w dc fc ctx := ⟨h.im.af (fun b hb => hp b (h.sub b hb)) f, h.nd, h.sub, fun H' d' fc' ht hk im nd hf => h.put H' d' fc' (fun b xs z => ht b xs (f.tup b xs z)) (fun b hb hn o e m => hk b hb hn o (f.keep b o (hp b hb) e m.tbl) m) im nd hf⟩
end
/-! ### paths -/
section
variable {K : PySem.W.Frag} {T : List (Addr × Str)} {ρ : List Sl} {α β γ : Type} [Enc β] [Enc γ]
end
/-! ### what is done there -/
section
variable {K : PySem.W.Frag} {T : List (Addr × Str)} {ρ : List Sl} {C : Option Addr → Prop}
variable {α β R S B : Type} [Enc β] [Enc R] {ρn : S → List Sl} {ρb : B → List Sl}
end
end Bf
namespace Bf
open PySem PySem.Spec PyProof.Rows L2 LamX NdefX
/-! ## methods that change their object -/
/-- an object without fields yet -/
structure Fresh (cn : Str) where
instance {cn : Str} : Enc (Fresh cn) := ⟨fun _ => obD (.bool true) cn [] []⟩
instance {cn : Str} : Ob (Fresh cn) where
  cn := cn
  ns := []
  fl := fun _ => []
  en := fun _ => rfl
  ln := fun _ => rfl
section
variable {K : PySem.W.Frag} {T : List (Addr × Str)} {Bs : Addr → HO → Prop} {po : Option Addr} {ρ : List Sl} {φ : Nat → List Addr} {σ : L2.St} {H H' : Hp} {n : Nat}
end
section
variable {K : PySem.W.Frag} {T : List (Addr × Str)} {ρ : List Sl} {i : Nat} {d : PyData} {α : Type} [Enc α]
end
section
variable {K : PySem.W.Frag} {T : List (Addr × Str)} {ρ : List Sl}
end
end Bf
namespace Bf
open PySem PySem.Spec PyProof.Rows L2 LamX NdefX
/-! ## defs of classes -/
theorem FunQ.go {P : Program} {w : World} {K : PySem.W.Frag} {mg : Str → Option Value} {base : Heap} {x qual : Str} {st : Stmt} {dvs : List V} {kws : List (Str × V)} {f : Addr} {fd : FuncData} {N ps : List Str} {k : Nat} {sp : Sp} (F : FunD K x qual (defArgs st) (defBody st) (defScope st) dvs kws f fd) (S : FnScope N ps (defScope st)) (len : ∀ vs H Q E, sp vs H Q E → vs.length = ps.length)
    (hbody : ∀ (cdv : Value) (A : Around) (outer : List Env) (s : Shared) (H : Hp) (vs : List V) (Q : VK) (E : XK), Room k (A.deeper (envOfC qual (defScope st) s.heap.objs.size f cdv)) → sp vs H Q E →
      ∃ t, PSs (cxOf CX0 P w K mg base N qual (defScope st) f cdv A outer s H E).nox (defBody st) t ∧ t { nx := fun _ H' => Q .non H', rt := Q } (start N vs) H) : FnOk P w K mg base CX0 (k + 1) f fd ps sp :=
  FunD.ok F S len fun cdv A outer s H vs Q E hr hs => let ⟨t, h, q⟩ := hbody cdv A outer s H vs Q E hr hs; ⟨t, h.nox, q⟩
/-- a method -/
structure CalM (P : Program) (w : World) (K : PySem.W.Frag) (mg : Str → Option Value) (base : Heap) (k : Nat) (cn x : Str) (f : Addr) (fd : FuncData) (ps : List Str) (sp : Sp) : Prop where
  G : FnOk P w K mg base CX0 k f fd ps sp
  m : Meth K (He.ga K cn) x f
  b : Binds K fd ps []
/-- an __init__ -/
structure CalI (P : Program) (w : World) (K : PySem.W.Frag) (mg : Str → Option Value) (base : Heap) (k : Nat) (cn : Str) (f : Addr) (fd : FuncData) (ps : List Str) (sp : Sp) : Prop where
  G : FnOk P w K mg base CX0 k f fd ps sp
  m : Mk K (He.ga K cn) f
  g : mg cn = some (.ref (He.ga K cn))
section
variable {X : Cx} {CX : CXT} {C f : Addr} {fd : FuncData} {ps : List Str} {sp : Sp} {E : XK} {n : Nat}
end
section
variable {K : PySem.W.Frag} {T : List (Addr × Str)} {ρ : List Sl}
end
end Bf
namespace Bf
open PySem PySem.Spec PyProof.Rows L2 LamX NdefX
section
variable {K : PySem.W.Frag} {T : List (Addr × Str)} {ρ : List Sl} {C : Option Addr → Prop}
variable {α β R S B : Type} [Enc β] [Enc R] {ρn : S → List Sl} {ρb : B → List Sl}
end
end Bf
namespace Bf
open PySem PySem.Spec PyProof.Rows L2 LamX NdefX
/-! ## dicts that an expression tells: fields of objects -/
section
variable {K : PySem.W.Frag} {T : List (Addr × Str)} {ρ : List Sl}
variable {κ α β : Type} [Enc κ] [Enc α] [Enc β] [TK κ]
end
def kDel {β : Type} (l : List (Nat × β)) (k : Nat) : List (Nat × β) := l.filter fun kv => decide (kv.1 ≠ k)
def dDel {κ β : Type} [DecidableEq κ] (l : List (κ × β)) (k : κ) : List (κ × β) := l.filter fun kv => decide (kv.1 ≠ k)
section
variable {K : PySem.W.Frag} {H : Hp} {κ β : Type} [Enc κ] [Enc β] [TK κ]
theorem EntN.same {k : Nat} : ∀ {kvs : List (Key × V)} {l : List (Nat × β)}, EntN K H kvs l → valV kvs (nK k) = none → kDel l k = l
  | _, _, .nil, _ => rfl
  | _, _, .cons (k := k2) h1 h2, e => by
    unfold kDel
    by_cases c : k2 = k
    · subst c
      rw [valV_pos rfl] at e
      cases e
    · rw [valV_neg (show ¬ nK k2 = nK k from fun z => c (nK_inj z))] at e
      rw [List.filter_cons, if_pos (decide_eq_true c)]
      exact congrArg _ (h2.same e)
theorem Ents.same {k : κ} : ∀ {kvs : List (List Key × V)} {l : List (κ × β)}, Ents K H kvs l → valV kvs (TK.key k) = none → dDel l k = l
  | _, _, .nil, _ => rfl
  | _, _, .cons (k := k2) h1 h2, e => by
    unfold dDel
    by_cases c : k2 = k
    · subst c
      rw [valV_pos rfl] at e
      cases e
    · rw [valV_neg (show ¬ TK.key k2 = TK.key k from fun z => c (TK.inj _ _ z))] at e
      rw [List.filter_cons, if_pos (decide_eq_true c)]
      exact congrArg _ (h2.same e)
end
section
variable {K : PySem.W.Frag} {T : List (Addr × Str)} {ρ : List Sl} {C : Option Addr → Prop}
variable {κ α β γ R S B : Type} [Enc κ] [Enc β] [Enc γ] [Enc R] [TK κ] {ρn : S → List Sl} {ρb : B → List Sl}
end
end Bf
namespace Bf
open PySem PySem.Spec PyProof.Rows L2 LamX NdefX
/-! ## fields written anew -/
section
variable {K : PySem.W.Frag} {T : List (Addr × Str)} {ρ : List Sl} {C : Option Addr → Prop}
variable {α β γ R S B : Type} [Enc α] [Ob α] [Enc β] [Enc γ] [Enc R] {ρn : S → List Sl} {ρb : B → List Sl}
end
end Bf
namespace Bf
open PySem PySem.Spec PyProof.Rows L2 LamX NdefX
section
variable {K : PySem.W.Frag} {T : List (Addr × Str)} {ρ : List Sl}
/-! ### defs that tell nothing -/
end
end Bf
/-! ## dicts with tuples for keys held against each other -/
namespace BfEq
open PySem PySem.Calls PyProof.Rows PyProof.V PySem.Spec PySem.W
section
variable {prog : Program} {w : World} {K : Type} [DecidableEq K] {knd : HeapKind prog w K} {A : Around} {E : Value → Shared → Prop} {s : Shared}
/-- entry by entry: is it there, is it the same -/
inductive HitsT (A : Around) (s : Shared) (ys : List (K × Addr × Value)) : List (K × Addr × Value) → Bool → Prop
  | nil : HitsT A s ys [] true
  | miss {x : K × Addr × Value} {r : List (K × Addr × Value)} : atKey ys x.1 = none → HitsT A s ys (x :: r) false
  | hit {x : K × Addr × Value} {p : Addr × Value} {r : List (K × Addr × Value)} {c b : Bool} : atKey ys x.1 = some p → SeqAt.EqAt A s x.2.2 p.2 c → HitsT A s ys r b → HitsT A s ys (x :: r) (c && b)
end
end BfEq
namespace Bf
open PySem PySem.Spec PyProof.Rows L2 LamX NdefX
/-- flat values and the data they are -/
def flD : V → Option PyData
  | .int i => some (.int i)
  | .bl b => some (.bool b)
  | _ => none
section
variable {A : Around} {s : Shared} {κ : Type} [DecidableEq κ]
end
section
variable {X : Cx}
end
/-! ### as words -/
/-- values that are flat -/
class Fla (β : Type) [Enc β] : Prop where
  fl : ∀ {K : PySem.W.Frag} {H : Hp} {v : V} {b : β} {fp : List Addr}, Im K H v (enc b) fp → flD v = some (enc b)
instance : Fla Nat := ⟨fun h => by cases h; rfl⟩
instance : Fla Bool := ⟨fun h => by cases h; rfl⟩
section
variable {K : PySem.W.Frag} {κ β : Type} [Enc κ] [Enc β] [TK κ] [Pu β] [Fla β]
end
/-! ### data in a list of data -/
section
variable {K : PySem.W.Frag} {α : Type} [Enc α]
end
end Bf
namespace Bf
open PySem PySem.Spec PyProof.Rows L2 LamX NdefX
/-! ## for k, v in d.items(): d a dict with tuple keys that nobody holds -/
section
variable {P : Program} {w : World} {K : PySem.W.Frag} {d : Addr} {o : Obj} {es : Array DictEntry} {ep : Nat}
end
/-! ### the loop -/
section
variable {K : PySem.W.Frag} {T : List (Addr × Str)} {ρ : List Sl}
variable {κ β : Type} [Enc κ] [Enc β] [TK κ]
variable {B R S S2 : Type} [Enc R] {C : Option Addr → Prop} {ρn : S → List Sl} {ρb : B → List Sl}
end
end Bf
namespace Bf
open PySem PySem.Spec PyProof.Rows L2 LamX NdefX
section
variable {K : PySem.W.Frag}
end
end Bf
namespace Bf
open PySem PySem.Spec PyProof.Rows L2 LamX NdefX
/-! ## == and != of two objects of a class with its own == -/
structure CmpT (K : PySem.W.Frag) (C : Addr) : Prop where
  ne : PySem.W.findIn K (.ref C) "__ne__" = some (some (.builtin "object.__ne__"))
  mro : PySem.W.mroIn K C (.type "object") = some true
  cls : PySem.W.findIn K (.ref C) "__class__" = some (some (.builtin "object.__class__"))
  get : PySem.W.specialIn K (.builtin "object.__class__") "__get__" = some (some (.builtin "getset_descriptor.__get__"))
  tak : PySem.W.takesIn K (.builtin "object.__class__") = some true
  kit : PySem.W.kitOne K (.ref C) (.ref C) = some true
section
open PySem.W
variable {prog : Program} {w : World} {A : Around} {E : Value → Shared → Prop} {s : Shared} {K : Frag} {x y C L f : Addr} {h₀ : Heap} {m : Str → Option Value} {ox oy : Obj} {od od' : Option Obj}
end
section
variable {X : Cx} {CX : CXT} {C f : Addr} {fd : FuncData} {ps : List Str} {sp : Sp} {E : XK} {n : Nat}
end
section
variable {K : PySem.W.Frag} {T : List (Addr × Str)} {ρ : List Sl}
end
/-! ## making an object by names, the last parameter left out -/
/-! ## o.m(k = v, ..) -/
section
variable {X : Cx} {CX : CXT} {C f : Addr} {fd : FuncData} {ps ks : List Str} {sp : Sp} {E : XK} {n : Nat} {m : Str} {pos apos : Pos} {o : Expr} {kws : List Keyword} {ta : TE} {tk : TA} {g : List Value → List Value → List Value} {gV : List V → List V → List V}
end
/-! ## for i, xs in enumerate(a new list of lists) -/
section
variable {K : PySem.W.Frag} {T : List (Addr × Str)} {ρ : List Sl} {β : Type} [Enc β]
end
section
variable {K : PySem.W.Frag} {T : List (Addr × Str)} {ρ : List Sl} {C : Option Addr → Prop}
variable {α β γ R S S2 B : Type} [Enc α] [Enc R] {ρn : S → List Sl} {ρb : B → List Sl}
end
/-! ## a list in a list of one's own, changed in place -/
section
variable {K : PySem.W.Frag} {T : List (Addr × Str)} {ρ : List Sl}
end
end Bf
namespace Bf
open PySem PySem.Spec PyProof.Rows L2
/-! ### zip of three lists -/
end Bf
namespace Bf
open PySem PySem.Spec PyProof.Rows L2 LamX NdefX
/-! ## an object in a list of one's own, changed by its own method -/
section
variable {K : PySem.W.Frag} {T : List (Addr × Str)} {ρ : List Sl} {C : Option Addr → Prop}
end
/-! ## == of an object and something else, is None -/
section
variable {X : Cx} {CX : CXT} {C f : Addr} {fd : FuncData} {ps : List Str} {sp : Sp} {E : XK} {n : Nat}
end
structure OthT (K : PySem.W.Frag) (C : Addr) : Prop where
  k : ∀ n ∈ ["int", "tuple", "list"], PySem.W.kitOne K (.type n) (.ref C) = some false
  s : ∀ n ∈ ["int", "tuple", "list"], PySem.W.subIn K (.type n) (.ref C) = some false
/-- what has a type of its own that isn't the class's -/
class Oth (β : Type) [Enc β] where
  nm : String
  mem : nm ∈ ["int", "tuple", "list"]
  ty : ∀ {K : PySem.W.Frag} {H : Hp} {v : V} {b : β} {fp : List Addr}, Im K H v (enc b) fp → TyOf K H v (.type nm)
instance : Oth Nat := ⟨"int", by decide, fun i => by cases i; exact .int _⟩
instance {α : Type} [Enc α] : Oth (Lst α) := ⟨"list", by decide, fun i => by obtain ⟨a, vs, fq, rfl, hT, _⟩ := im_lst i; exact .lst hT⟩
section
variable {K : PySem.W.Frag} {T : List (Addr × Str)} {ρ : List Sl}
end
instance {α : Type} [Enc α] [Tpl α] : Oth α := ⟨"tuple", by decide, fun {K H v b fp} i => by
  obtain ⟨ds, e⟩ := Tpl.ex b
  rw [e] at i
  cases i with
  | tup hT hA => exact .tup hT⟩
/-! ## for x, y, z in zip(three lists that are only read): the x's may be objects -/
section
variable {K : PySem.W.Frag} {T : List (Addr × Str)} {ρ : List Sl} {α β γ : Type} [Enc α] [Enc β] [Enc γ]
end
section
variable {K : PySem.W.Frag} {T : List (Addr × Str)} {ρ : List Sl} {C : Option Addr → Prop}
variable {α β γ R S S2 B : Type} [Enc α] [Enc R] {ρn : S → List Sl} {ρb : B → List Sl}
end
section
variable {K : PySem.W.Frag} {T : List (Addr × Str)} {ρ : List Sl} {α : Type} [Enc α]
end
end Bf
namespace Bf
open PySem PySem.Spec PyProof.Rows L2 LamX NdefX
/-! ## several things of one's own changed at once, and the pot -/
section
variable {K : PySem.W.Frag} {T : List (Addr × Str)} {Bs : Addr → HO → Prop} {po : Option Addr} {ρ ρ' : List Sl} {φ : Nat → List Addr} {σ : L2.St} {H H' : Hp} {n n' : Nat} {nw : Nat → Option (PyData × List Addr)}
/-- what stands in the slots anew -/
structure NewS (K : PySem.W.Frag) (H H' : Hp) (ρ : List Sl) (φ : Nat → List Addr) (σ : L2.St) (nw : Nat → Option (PyData × List Addr)) : Prop where
  old : ∀ i x, nw i = some x → ∃ d v, ρ[i]? = some (.own d) ∧ σ[i]? = some (some v) ∧ Im K H' v x.1 x.2 ∧ x.2.Nodup ∧ ∀ b ∈ x.2, b ∈ φ i ∨ Fsh H b
  dis : ∀ i j x y, i ≠ j → nw i = some x → nw j = some y → ∀ b ∈ x.2, b ∉ y.2
end
end Bf
namespace Bf
open PySem PySem.Spec PyProof.Rows L2 LamX NdefX
/-! ## defs that change one of their arguments, a list -/
class Lk (α : Type) [Enc α] : Prop where
  li : ∀ a : α, ∃ ds, enc a = .list ds
instance {α : Type} [Enc α] : Lk (Lst α) := ⟨fun a => ⟨_, rfl⟩⟩
section
variable {K : PySem.W.Frag} {H : Hp} {α : Type} [Enc α] [Lk α]
theorem Lk.ref {v : V} {a : α} {fp : List Addr} (h : Im K H v (enc a) fp) : ∃ x, v = .ref x := by
  obtain ⟨ds, e⟩ := Lk.li a
  rw [e] at h
  cases h with
  | lst hT hA q => exact ⟨_, rfl⟩
end
section
variable {K : PySem.W.Frag} {T : List (Addr × Str)} {ρ : List Sl}
end
end Bf
namespace Bf
open PySem PySem.Spec PyProof.Rows L2 LamX NdefX
section
variable {K : PySem.W.Frag} {T : List (Addr × Str)} {ρ : List Sl} {α β : Type} [Enc α] [Enc β]
/-! ## a list that a def changes: the path to it -/
/-! ## a comprehension whose items are lists that others hold -/
/-! ## xs * n of a list of lists -/
end
/-! ## zip of two lists that are only read -/
section
variable {K : PySem.W.Frag} {T : List (Addr × Str)} {ρ : List Sl} {α β γ : Type} [Enc α] [Enc β]
end
section
variable {K : PySem.W.Frag} {T : List (Addr × Str)} {ρ : List Sl} {C : Option Addr → Prop}
variable {α β γ R S S2 B : Type} [Enc α] [Enc R] {ρn : S → List Sl} {ρb : B → List Sl}
end
end Bf
namespace Bf
open PySem PySem.Spec PyProof.Rows L2 LamX NdefX
section
variable {K : PySem.W.Frag} {T : List (Addr × Str)} {ρ : List Sl} {C : Option Addr → Prop}
variable {α R B S : Type} [Enc α] [Enc R] {ρn : S → List Sl} {ρb : B → List Sl}
end
section
variable {K : PySem.W.Frag} {T : List (Addr × Str)} {ρ : List Sl} {α β : Type} [Enc α] [Enc β]
/-! ## [e for x in xs]: x shared, e new -/
end
section
variable {K : PySem.W.Frag} {T : List (Addr × Str)} {ρ : List Sl} {α : Type} [Enc α]
end
end Bf
namespace Bf
open PySem PySem.Spec PyProof.Rows L2 LamX NdefX
/-! ## records: dicts whose keys are texts -/
abbrev rcD (ns : List Str) (ds : List PyData) : PyData := .dict ((.none, .none) :: obF ns ds)
class Rc (α : Type) [Enc α] where
  ns : List Str
  fl : α → List PyData
  en : ∀ a, enc a = rcD ns (fl a)
  ln : ∀ a, ns.length = (fl a).length
section
variable {K : PySem.W.Frag} {H H' : Hp}
structure RcAt (K : PySem.W.Frag) (H : Hp) (a : Addr) (ns : List Str) (ds : List PyData) (kvs : List (Key × V)) (fp : List Addr) : Prop where
  at_ : H a = some (.dK kvs)
  nm : kvs.map Prod.fst = ns.map Sum.inr
  it : ImA K H (kvs.map Prod.snd) ds fp
theorem kD_str : ∀ {ks : List Key} {ns : List Str}, ks.map kD = ns.map PyData.str → ks = ns.map Sum.inr
  | [], [], _ => rfl
  | [], _ :: _, h => by cases h
  | _ :: _, [], h => by cases h
  | k :: ks, n :: ns, h => by
    rw [List.map_cons, List.map_cons, List.cons.injEq] at h
    rw [List.map_cons, kD_str h.2]
    cases k with
    | inl i => cases h.1
    | inr x => rw [PyData.str.inj h.1]
theorem im_rc {v : V} {ns : List Str} {ds : List PyData} {fq : List Addr} (h : Im K H v (rcD ns ds) fq) (hl : ns.length = ds.length) : ∃ a kvs fp, v = .ref a ∧ RcAt K H a ns ds kvs fp ∧ fq = a :: fp := by
  generalize hp : rcD ns ds = d at h
  cases h with
  | dicK e e1 e2 hA q =>
    have hp := (List.cons.inj (PyData.dict.inj hp)).2
    subst hp
    rw [obF_fst hl] at e1
    rw [obF_snd hl] at e2
    subst e2
    refine ⟨_, _, _, rfl, ⟨e, kD_str ?_, hA⟩, q⟩
    rw [List.map_map]
    exact e1.symm
  | dicT e e1 e2 hA q =>
    have hp := PyData.dict.inj hp
    subst hp
    rename_i kvs _ _
    cases kvs with
    | nil => cases e1
    | cons x xs => exact absurd (List.cons.inj e1).1 (fun z => nomatch z)
  | ins em e e1 e2 hA q =>
    have hp := congrArg Prod.fst (List.cons.inj (PyData.dict.inj hp)).1
    dsimp only at hp
    rcases em with rfl | rfl
    · cases hp
    · cases hp
  | pin z =>
    have hp := congrArg Prod.fst (List.cons.inj (PyData.dict.inj hp)).1
    cases hp
  | _ => cases hp
theorem RcAt.im {a : Addr} {ns : List Str} {ds : List PyData} {kvs : List (Key × V)} {fp : List Addr} (h : RcAt K H a ns ds kvs fp) (hl : ns.length = ds.length) : Im K H (.ref a) (rcD ns ds) (a :: fp) := by
  refine .dicK h.at_ ?_ (obF_snd hl) h.it rfl
  rw [obF_fst hl]
  have e : kvs.map (fun kv => kD kv.1) = (kvs.map Prod.fst).map kD := by rw [List.map_map]; rfl
  rw [e, h.nm, List.map_map]
  rfl
end
/-! ### reading -/
section
variable {K : PySem.W.Frag} {T : List (Addr × Str)} {ρ : List Sl} {α β : Type} [Enc α] [Enc β]
end
/-! ### a record's part as a path -/
section
variable {K : PySem.W.Frag} {H H1 : Hp} {v w : V} {fp fc : List Addr} {ctx : PyData → PyData}
theorem SubA.key {ns : List Str} {ds : List PyData} {j : Nat} {d : PyData} (h : SubA K H v fp w (rcD ns ds) fc ctx) (hl : ns.length = ds.length) (e : ds[j]? = some d) : ∃ a kvs u fj, w = .ref a ∧ H a = some (.dK kvs) ∧ kvs.map Prod.fst = ns.map Sum.inr ∧ (kvs.map Prod.snd)[j]? = some u ∧ a ∈ fc ∧ a ∉ fj ∧ (∀ b ∈ fj, b ∈ fc) ∧ SubA K H v fp u d fj fun x => ctx (rcD ns (ds.set j x)) := by
  obtain ⟨a, kvs, fq, rfl, o, ef⟩ := im_rc h.im hl
  have hnd := h.nd
  rw [ef] at hnd
  obtain ⟨n1, n2⟩ := List.nodup_cons.mp hnd
  obtain ⟨u, fj, e1, e2, e3, e4, e5⟩ := o.it.focus n2 e
  have inc : ∀ b ∈ fj, b ∈ fc := fun b hb => by rw [ef]; exact List.mem_cons_of_mem _ (e4 b hb)
  have afc : a ∈ fc := by rw [ef]; exact List.mem_cons_self
  have afj : a ∉ fj := fun z => n1 (e4 a z)
  refine ⟨a, kvs, u, fj, rfl, o.at_, o.nm, e1, afc, afj, inc, e2, e3, fun b hb => h.sub b (inc b hb), fun H' d' fc' ht hk im nd hf => ?_⟩
  have ha := hk a (h.sub a afc) afj _ o.at_ trivial
  obtain ⟨fp', g1, g2, g3⟩ := e5 H' u d' fc' ht (fun b hb hn => hk b (h.sub b (by rw [ef]; exact List.mem_cons_of_mem _ hb)) hn) im nd fun b hb => (hf b hb).imp id fun z y => z (h.sub b (by rw [ef]; exact List.mem_cons_of_mem _ y))
  rw [set_self e1] at g1
  have nd' : (a :: fp').Nodup := List.nodup_cons.mpr ⟨fun z => by
    rcases g3 a z with y | y
    · exact n1 y.1
    · rcases hf a y with x | x
      · exact afj x
      · exact x (h.sub a afc), g2⟩
  have o' : RcAt K H' a ns (ds.set j d') kvs fp' := ⟨ha, o.nm, g1⟩
  obtain ⟨fq', k1, k2, k3⟩ := h.put H' _ (a :: fp') ht (fun b hb hn => hk b hb fun z => hn (inc b z)) (o'.im (by rw [List.length_set]; exact hl)) nd' fun b hb => by
    rcases List.mem_cons.mp hb with rfl | hb
    · exact .inl afc
    rcases g3 b hb with z | z
    · exact .inl (by rw [ef]; exact List.mem_cons_of_mem _ z.1)
    · rcases hf b z with y | y
      · exact .inl (inc b y)
      · exact .inr y
  exact ⟨fq', k1, k2, fun b hb => by
    rcases k3 b hb with z | z
    · exact .inl z
    · rcases List.mem_cons.mp z with rfl | z
      · exact .inl (h.sub _ afc)
      rcases g3 b z with y | y
      · exact .inl (h.sub b (by rw [ef]; exact List.mem_cons_of_mem _ y.1))
      · exact .inr y⟩
end
section
variable {K : PySem.W.Frag} {T : List (Addr × Str)} {ρ : List Sl} {α γ β : Type} [Enc α] [Enc β]
end
end Bf
namespace Bf
open PySem PySem.Spec PyProof.Rows L2 LamX NdefX
/-! ## dict.update, dict(pairs), list(d.items()), of dicts with tuple keys -/
section
variable {X : Cx}
end
end Bf
namespace Bf
open PySem PySem.Spec PyProof.Rows L2 LamX NdefX
section
variable {X : Cx}
end
end Bf
namespace Bf
open PySem PySem.Spec PyProof.Rows L2 LamX NdefX
/-! ## list(d.items()), dict(pairs) -/
section
variable {K : PySem.W.Frag} {T : List (Addr × Str)} {ρ : List Sl}
variable {κ α β γ : Type} [Enc κ] [Enc α] [Enc β] [Enc γ] [TK κ]
end
/-! ## things with a place: lists, objects, records -/
class Pk (α : Type) [Enc α] : Prop where
  pk : ∀ a : α, (∃ ds, enc a = .list ds) ∨ ∃ ps, enc a = .dict ps
instance {α : Type} [Enc α] : Pk (Lst α) := ⟨fun a => .inl ⟨_, rfl⟩⟩
instance {α : Type} [Enc α] [Rc α] : Pk α := ⟨fun a => .inr ⟨_, Rc.en a⟩⟩
section
variable {K : PySem.W.Frag} {H : Hp} {α : Type} [Enc α] [Pk α]
theorem Pk.ref {v : V} {a : α} {fp : List Addr} (h : Im K H v (enc a) fp) : ∃ x, v = .ref x := by
  rcases Pk.pk a with ⟨ds, e⟩ | ⟨ds, e⟩
  · rw [e] at h
    cases h
    exact ⟨_, rfl⟩
  · rw [e] at h
    cases h <;> exact ⟨_, rfl⟩
end
section
variable {K : PySem.W.Frag} {T : List (Addr × Str)} {ρ : List Sl}
end
end Bf
namespace Bf
open PySem PySem.Spec PyProof.Rows L2 LamX NdefX
/-! ## going through a dict that stands in a record -/
def NoBs : List Sl → Prop
  | [] => True
  | .any :: r => NoBs r
  | .pot :: r => NoBs r
  | .own _ :: r => NoBs r
  | _ => False
theorem NoBs.at : ∀ {ρ : List Sl} {j : Nat} {s : Sl}, NoBs ρ → ρ[j]? = some s → s = .any ∨ s = .pot ∨ ∃ d, s = .own d
  | [], _, _, _, h => by cases h
  | x :: r, 0, s, h, e => by
    obtain rfl : x = s := Option.some.inj e
    cases x with
    | any => exact .inl rfl
    | pot => exact .inr (.inl rfl)
    | own d => exact .inr (.inr ⟨d, rfl⟩)
    | _ => exact h.elim
  | x :: r, j + 1, s, h, e => by
    have h2 : NoBs r := by
      cases x with
      | any => exact h
      | pot => exact h
      | own d => exact h
      | _ => exact h.elim
    exact NoBs.at (j := j) h2 e
section
variable {K : PySem.W.Frag} {T : List (Addr × Str)} {Bs : Addr → HO → Prop} {po : Option Addr} {ρ ρ0 : List Sl} {φ : Nat → List Addr} {σ : L2.St} {H H' : Hp} {n n' : Nat}
end
section
variable {K : PySem.W.Frag} {T : List (Addr × Str)} {ρ ρ0 : List Sl}
variable {κ α β γ : Type} [Enc κ] [Enc α] [Enc β] [Enc γ] [TK κ]
end
end Bf
namespace Bf
open PySem PySem.Spec PyProof.Rows L2 LamX NdefX
/-! ## parts changed -/
section
variable {K : PySem.W.Frag} {T : List (Addr × Str)} {ρ : List Sl} {C : Option Addr → Prop}
variable {α β γ R S B : Type} [Enc α] [Enc β] [Enc R] {ρn : S → List Sl} {ρb : B → List Sl}
end
end Bf
namespace Bf
open PySem PySem.Spec PyProof.Rows L2 LamX NdefX
/-! ## {k: v}, k a tuple -/
end Bf
namespace Bf
open PySem PySem.Spec PyProof.Rows L2 LamX NdefX
section
variable {K : PySem.W.Frag} {T : List (Addr × Str)} {ρ : List Sl}
variable {κ α β γ : Type} [Enc κ] [Enc α] [Enc β] [Enc γ]
/-! ### displays with texts for keys -/
/-! ### record.update(display) -/
end
section
variable {K : PySem.W.Frag} {T : List (Addr × Str)} {ρ ρ' : List Sl} {C : Option Addr → Prop}
variable {α γ R S B : Type} [Enc α] [Enc R] {ρn : S → List Sl} {ρb : B → List Sl}
end
end Bf
namespace Bf
open PySem PySem.Spec PyProof.Rows L2 LamX NdefX
/-! ## two things of one's own changed by a def, and the pot -/
section
variable {K : PySem.W.Frag} {T : List (Addr × Str)} {Bs : Addr → HO → Prop} {po : Option Addr} {ρ : List Sl} {φ : Nat → List Addr} {σ : L2.St} {H H' : Hp} {n n' : Nat}
end
/-- how a slot holds a thing: as it is, or with its place -/
structure RtE (K : PySem.W.Frag) {α : Type} [Enc α] (e : α → PyData) : Prop where
  im : ∀ {H : Hp} {v : V} {s : α} {fp : List Addr}, Im K H v (e s) fp → ∃ x, v = .ref x ∧ Im K H (.ref x) (enc s) fp
  bk : ∀ {H H' : Hp} {x : Addr} {s s' : α} {fp fp' : List Addr}, Im K H (.ref x) (e s) fp → Im K H' (.ref x) (enc s') fp' → Im K H' (.ref x) (e s') fp'
/-! ### defs that return early: at a 'return' stands what is told, as at the end -/
def RBt (K : PySem.W.Frag) (T : List (Addr × Str)) (C : Option Addr → Prop) (t : TS) (ρ : List Sl) {S : Type} (m : M S) (ρn : S → List Sl) : Prop :=
  ∀ (Bs : Addr → HO → Prop) (po : Option Addr), C po → ∀ (σ : L2.St) (H : Hp) (n : Nat), STe K T Bs po ρ σ H n → ∀ P : S → Nat → Prop, m n P → ∀ D : Ends,
    (∀ s n' σ' H' Bs', P s n' → Sub Bs Bs' → STe K T Bs' po (ρn s) σ' H' n' → Tpk K H H' → D.nx σ' H') →
    (∀ s n' σ' H' Bs', P s n' → Sub Bs Bs' → STe K T Bs' po (ρn s) σ' H' n' → Tpk K H H' → D.rt .non H') → t D σ H
section
variable {K : PySem.W.Frag} {T : List (Addr × Str)} {ρ : List Sl} {C : Option Addr → Prop} {α β S R B : Type} [Enc α] [Enc β] [Enc R] {ρn : S → List Sl} {ρb : B → List Sl}
theorem RBt.go {t : TS} {m : M S} (h : RBt K T C t ρ m ρn) {Bs Bs1 : Addr → HO → Prop} {po : Option Addr} (hC : C po) {σ : L2.St} {H0 H : Hp} {n : Nat} (st : STe K T Bs1 po ρ σ H n) {P : S → Nat → Prop} (p : m n P) {D : Ends} (sub : Sub Bs Bs1) (tp : Tpk K H0 H)
    (h1 : ∀ s n' σ' H' Bs', P s n' → Sub Bs Bs' → STe K T Bs' po (ρn s) σ' H' n' → Tpk K H0 H' → D.nx σ' H') (h2 : ∀ s n' σ' H' Bs', P s n' → Sub Bs Bs' → STe K T Bs' po (ρn s) σ' H' n' → Tpk K H0 H' → D.rt .non H') : t D σ H :=
  h Bs1 po hC σ H n st P p D (fun s n' σ' H' Bs' p' sb st' tp' => h1 s n' σ' H' Bs' p' (fun b o z => sb b o (sub b o z)) st' (tp.trans tp')) fun s n' σ' H' Bs' p' sb st' tp' => h2 s n' σ' H' Bs' p' (fun b o z => sb b o (sub b o z)) st' (tp.trans tp')
end
section
variable {K : PySem.W.Frag} {T : List (Addr × Str)} {ρ : List Sl}
end
end Bf
namespace Bf
open PySem PySem.Spec PyProof.Rows L2 LamX NdefX
instance {κ β : Type} [Enc κ] [Enc β] : Pk (Dct κ β) := ⟨fun a => .inr ⟨_, rfl⟩⟩
section
variable {K : PySem.W.Frag} {T : List (Addr × Str)} {ρ : List Sl}
/-! ### three at once, the first two new things -/
end
end Bf
namespace Bf
open PySem PySem.Spec PyProof.Rows L2 LamX NdefX
section
variable {K : PySem.W.Frag} {T : List (Addr × Str)} {ρ : List Sl} {C : Option Addr → Prop}
variable {α γ R S S2 B : Type} [Enc α] [Enc R] {ρn : S → List Sl} {ρb : B → List Sl}
end
section
variable {K : PySem.W.Frag} {T : List (Addr × Str)} {ρ ρ0 : List Sl}

variable {κ β γ : Type} [Enc κ] [Enc β] [Enc γ] [TK κ]
end
end Bf
namespace Bf
open PySem PySem.Spec PyProof.Rows L2 LamX NdefX
/-! ## texts -/
section
variable {K : PySem.W.Frag} {T : List (Addr × Str)} {ρ : List Sl} {γ β : Type} [Enc γ] [Enc β]
theorem im_str {H : Hp} {v : V} {a : Str} {fp : List Addr} (h : Im K H v (enc a) fp) : v = .str a ∧ fp = [] := by
  cases h
  exact ⟨rfl, rfl⟩
/-- a method of a text, nothing handed in -/
theorem re_sm0 {t : TE} {m : M Str} {f : Bool} {r : V → List V → Hp → VK → Prop} {g : Str → M γ} (hr : UnW K (fun x => r x []) g) (h : RE K T t ρ f m) : RE K T (tBM0 K "str" r t) ρ true (bindW m g) := fun Bs po φ σ H n st P p Q q =>
  h Bs po φ σ H n st _ p _ fun a n1 v H1 fp pa a1 i1 g1 => by
    obtain ⟨rfl, rfl⟩ := im_str i1
    exact ⟨rfl, hr a H1 _ _ i1 n1 _ pa Q fun c H3 v' fr pc s3 i3 g3 => q c n1 v' H3 fr pc (a1.trans (Af.same s3)) i3 (Fp.back a1.fr (fp_new (st.af a1) g3))⟩
/-- one thing handed in -/
theorem re_sm1 {t u : TE} {m : M Str} {mb : M β} {f f2 : Bool} {r : V → List V → Hp → VK → Prop} {g : Str → β → M γ} (hr : OpW K (fun x y => r x [y]) g) (h : RE K T t ρ f m) (hb : RE K T u ρ f2 mb) : RE K T (tBM K "str" r t (tCons u tNil)) ρ true (b2W m mb g) := fun Bs po φ σ H n st P p Q q =>
  h Bs po φ σ H n st _ p _ fun a n1 v H1 fp pa a1 i1 g1 => by
    obtain ⟨rfl, rfl⟩ := im_str i1
    exact ⟨rfl, hb Bs po φ σ H1 n1 (st.af a1) _ pa _ fun b n2 w H2 fq pb a2 i2 g2 => hr a b H2 _ w _ fq (.str _) i2 n2 _ pb Q fun c H3 v' fr pc s3 i3 g3 => by
      have a12 := a1.trans a2
      exact q c n2 v' H3 fr pc (a12.trans (Af.same s3)) i3 (Fp.back a12.fr (fp_new (st.af a12) g3))⟩
theorem uw_isascii : UnW K (fun x H (Q : VK) => ∃ a, x = .str a ∧ ([] : List V) = [] ∧ True ∧ Q (.bl (Txt.isascii a)) H) (fun a : Str => retW (Txt.isascii a)) := unw_pure fun a H v fp i1 n P p => by
  obtain ⟨rfl, rfl⟩ := im_str i1
  exact ⟨_, _, p, .bl _, fun Q q => ⟨a, rfl, rfl, trivial, q⟩⟩
theorem uw_isdigit : UnW K (fun x H (Q : VK) => ∃ a, x = .str a ∧ ([] : List V) = [] ∧ True ∧ Q (.bl (Txt.isdigit a)) H) (fun a : Str => retW (Txt.isdigit a)) := unw_pure fun a H v fp i1 n P p => by
  obtain ⟨rfl, rfl⟩ := im_str i1
  exact ⟨_, _, p, .bl _, fun Q q => ⟨a, rfl, rfl, trivial, q⟩⟩
theorem ow_starts : OpW K (fun x y H (Q : VK) => ∃ a b, x = .str a ∧ [y] = [V.str b] ∧ Q (.bl (Txt.startswith a b)) H) (fun a b : Str => retW (Txt.startswith a b)) := fun a b H v w fp fq i1 i2 n P p Q q => by
  obtain ⟨rfl, rfl⟩ := im_str i1
  obtain ⟨rfl, rfl⟩ := im_str i2
  exact ⟨a, b, rfl, rfl, q _ H _ [] p (Same.refl _) (.bl _) ⟨List.nodup_nil, fun x hx => absurd hx List.not_mem_nil⟩⟩
theorem ima_strs {H : Hp} : ∀ ys : List Str, ImA K H (ys.map V.str) (ys.map enc) []
  | [] => .nil
  | y :: ys => .cons (.str y) (ima_strs ys) rfl
theorem ima_strs_inv {H : Hp} : ∀ {ys : List Str} {vs : List V} {fp : List Addr}, ImA K H vs (ys.map enc) fp → vs = ys.map V.str ∧ fp = []
  | [], _, _, h => by cases h; exact ⟨rfl, rfl⟩
  | y :: ys, _, _, h => by
    cases h with
    | cons a b q =>
      cases a
      obtain ⟨rfl, rfl⟩ := ima_strs_inv b
      exact ⟨rfl, q⟩
theorem ow_split : OpW K (fun x y H (Q : VK) => ∃ a b, x = .str a ∧ [y] = [V.str b] ∧ (b.length == 0) = false ∧ a.length + 2 ≤ sizeLine ∧ rNewStrs (Txt.split a b) H Q) (fun a b : Str => reqW ((b.length == 0) = false ∧ a.length + 2 ≤ sizeLine) (retW (⟨Txt.split a b⟩ : Lst Str))) := fun a b H v w fp fq i1 i2 n P p Q q => by
  obtain ⟨rfl, rfl⟩ := im_str i1
  obtain ⟨rfl, rfl⟩ := im_str i2
  exact ⟨a, b, rfl, rfl, p.1.1, p.1.2, fun t nt => q (⟨Txt.split a b⟩ : Lst Str) _ _ [t] p.2 (same_new (Same.refl H) nt) (.lst upd_same (ima_strs _) rfl) ⟨List.nodup_cons.mpr ⟨List.not_mem_nil, List.nodup_nil⟩, fun x hx => by rw [List.mem_singleton.mp hx]; exact nt⟩⟩
theorem ow_partition : OpW K (fun x y H (Q : VK) => ∃ a b, x = .str a ∧ [y] = [V.str b] ∧ (b.length == 0) = false ∧ a.length ≤ sizeLine ∧ ∀ p, H p = none → Q (.ref p) (upd H p (.tup [.str (Txt.partition a b).1, .str (Txt.partition a b).2.1, .str (Txt.partition a b).2.2]))) (fun a b : Str => reqW ((b.length == 0) = false ∧ a.length ≤ sizeLine) (retW (⟨(Txt.partition a b).1, (Txt.partition a b).2.1, (Txt.partition a b).2.2⟩ : T3 Str Str Str))) := fun a b H v w fp fq i1 i2 n P p Q q => by
  obtain ⟨rfl, rfl⟩ := im_str i1
  obtain ⟨rfl, rfl⟩ := im_str i2
  exact ⟨a, b, rfl, rfl, p.1.1, p.1.2, fun t nt => q _ _ _ [] p.2 (same_new (Same.refl H) nt) (.tup upd_same (.cons (.str _) (.cons (.str _) (.cons (.str _) .nil rfl) rfl) rfl)) ⟨List.nodup_nil, fun x hx => absurd hx List.not_mem_nil⟩⟩
def jnOk (a : Str) (ys : List Str) : Prop := (ys.map (·.length)).sum + ys.length * a.length ≤ 16777216
theorem ow_joinL : OpW K (fun x y H (Q : VK) => ∃ a p, ∃ ys : List Str, x = .str a ∧ [y] = [.ref p] ∧ (SqL K H p (ys.map V.str) ∨ SqT K H p (ys.map V.str)) ∧ (ys.map (·.length)).sum + ys.length * a.length ≤ 16777216 ∧ Q (.str (Txt.join a ys)) H) (fun (a : Str) (ys : Lst Str) => reqW (jnOk a ys.l) (retW (Txt.join a ys.l))) := fun a ys H v w fp fq i1 i2 n P p Q q => by
  obtain ⟨rfl, rfl⟩ := im_str i1
  obtain ⟨t, vs, f1, rfl, hT, hA, _⟩ := im_lst i2
  obtain ⟨rfl, _⟩ := ima_strs_inv hA
  exact ⟨a, t, ys.l, rfl, rfl, .inl (.inl (.inl hT)), p.1, q _ H _ [] p.2 (Same.refl _) (.str _) ⟨List.nodup_nil, fun x hx => absurd hx List.not_mem_nil⟩⟩
theorem uw_lenS : UnW K (fun x H (Q : VK) => ∃ z, [x] = [V.str z] ∧ z.length ≤ sizeLine ∧ Q (.int z.length) H) (fun a : Str => reqW (a.length ≤ sizeLine) (retW a.length)) := unw_pure fun a H v fp i1 n P p => by
  obtain ⟨rfl, rfl⟩ := im_str i1
  exact ⟨_, _, p.2, .int _, fun Q q => ⟨a, rfl, p.1, q⟩⟩
theorem uw_strS : UnW K (fun x H (Q : VK) => ∃ a, [x] = [V.str a] ∧ Q (.str a) H) (fun a : Str => retW a) := unw_pure fun a H v fp i1 n P p => by
  obtain ⟨rfl, rfl⟩ := im_str i1
  exact ⟨_, _, p, .str _, fun Q q => ⟨a, rfl, q⟩⟩
theorem log_lt {n : Nat} (h : n < 2 ^ 60) : ((n : Nat) : Int).natAbs.log2 < 1920 := by
  rw [Int.natAbs_natCast]
  by_cases z : n = 0
  · rw [z]
    decide
  · exact (Nat.log2_lt z).mpr (Nat.lt_of_lt_of_le h (Nat.pow_le_pow_right (by decide) (by decide)))
theorem uw_strN : UnW K (fun x H (Q : VK) => ∃ i : Int, [x] = [V.int i] ∧ i.natAbs.log2 < 1920 ∧ Q (.str (toString i)) H) (fun n : Nat => reqW (n < 2 ^ 60) (retW (repN n))) := unw_pure fun k H v fp i1 n P p => by
  cases i1
  exact ⟨_, _, p.2, .str _, fun Q q => ⟨_, rfl, log_lt p.1, q⟩⟩
theorem uw_intS : UnW K (fun x H (Q : VK) => ∃ a n, [x] = [V.str a] ∧ PySem.intText? a = some n ∧ a.length ≤ 640 ∧ Q (.int n) H) (fun (a : Str) n P => ∃ k : Nat, PySem.intText? a = some (k : Int) ∧ a.length ≤ 640 ∧ P k n) := unw_pure fun a H v fp i1 n P p => by
  obtain ⟨rfl, rfl⟩ := im_str i1
  obtain ⟨k, e, hl, p⟩ := p
  exact ⟨_, _, p, .int _, fun Q q => ⟨a, _, rfl, e, hl, q⟩⟩
/-! ### f-strings -/
def jsW : List (M Str) → Str → M Str
  | [], acc => retW acc
  | m :: ms, acc => bindW m fun y => reqW ((acc ++ y).length ≤ sizeLine) (jsW ms (acc ++ y))
inductive RJ (K : PySem.W.Frag) (T : List (Addr × Str)) (ρ : List Sl) : List TE → List (M Str) → Prop where
  | nil : RJ K T ρ [] []
  | cons {t : TE} {m : M Str} {f : Bool} {ts : List TE} {ms : List (M Str)} (h : RE K T t ρ f m) (r : RJ K T ρ ts ms) : RJ K T ρ (t :: ts) (m :: ms)
theorem rj_run {ts : List TE} {ms : List (M Str)} (h : RJ K T ρ ts ms) : ∀ (acc : Str) (Bs : Addr → HO → Prop) (po : Option Addr) (φ : Nat → List Addr) (σ : L2.St) (H : Hp) (n : Nat), ST K T Bs po ρ φ σ H n → ∀ P : Str → Nat → Prop, jsW ms acc n P → ∀ Q : Str → Hp → Prop, (∀ a n' H', P a n' → Af K T po H n H' n' → Q a H') → tJs ts acc σ H Q := by
  induction h with
  | nil => exact fun acc Bs po φ σ H n st P p Q q => q acc n H p Af.refl
  | @cons t m f ts ms h r ih =>
    intro acc Bs po φ σ H n st P p Q q
    refine h Bs po φ σ H n st _ p _ fun y n1 v H1 fp pa a1 i1 g1 => ?_
    obtain ⟨rfl, rfl⟩ := im_str i1
    exact ⟨y, rfl, pa.1, ih (acc ++ y) Bs po φ σ H1 n1 (st.af a1) P pa.2 Q fun a n' H' p' af => q a n' H' p' (a1.trans af)⟩
theorem re_joined {ts : List TE} {ms : List (M Str)} (h : RJ K T ρ ts ms) : RE K T (fun σ H Q => tJs ts Str.empty σ H fun out H1 => Q (.str out) H1) ρ true (jsW ms Str.empty) := fun Bs po φ σ H n st P p Q q =>
  rj_run h Str.empty Bs po φ σ H n st P p _ fun a n' H' p' af => q a n' _ H' [] p' af (.str _) Fp.nil
theorem re_fmtN {t : TE} {m : M Nat} {f : Bool} (h : RE K T t ρ f m) : RE K T (tFmt t) ρ true (bindW m fun n => reqW (n < 2 ^ 60) (retW (repN n))) := fun Bs po φ σ H n st P p Q q =>
  h Bs po φ σ H n st _ p _ fun k n1 v H1 fp pa a1 i1 g1 => by
    cases i1
    exact .inr ⟨_, rfl, log_lt pa.1, q (repN k) n1 _ H1 [] pa.2 a1 (.str _) Fp.nil⟩
theorem re_fmtS {t : TE} {m : M Str} {f : Bool} (h : RE K T t ρ f m) : RE K T (tFmt t) ρ true (bindW m fun s => reqW (s.length ≤ sizeLine) (retW s)) := fun Bs po φ σ H n st P p Q q =>
  h Bs po φ σ H n st _ p _ fun k n1 v H1 fp pa a1 i1 g1 => by
    obtain ⟨rfl, rfl⟩ := im_str i1
    exact .inl ⟨k, rfl, pa.1, q k n1 _ H1 [] pa.2 a1 (.str _) Fp.nil⟩
/-! ### numbers where None might stand, none there -/
theorem re_unS {α : Type} [Enc α] {t : TE} {m : M (List (Option α))} {f : Bool} (h : RE K T t ρ f m) : RE K T t ρ f (fun n P => m n fun xs n1 => ∃ ns : List α, xs = ns.map some ∧ P ns n1) := fun Bs po φ σ H n st P p Q q =>
  h Bs po φ σ H n st _ p _ fun xs n1 v H1 fp pa a1 i1 g1 => by
    obtain ⟨ns, rfl, pa⟩ := pa
    exact q ns n1 v H1 fp pa a1 (by
      have e : (enc (ns.map some) : PyData) = enc ns := by
        show PyData.tuple ((ns.map some).map enc) = .tuple (ns.map enc)
        rw [List.map_map]
        rfl
      rw [← e]
      exact i1) g1
/-- a tuple of three numbers -/
theorem re_three {α : Type} [Enc α] {t : TE} {m : M (List α)} {f : Bool} (h : RE K T t ρ f m) : RE K T t ρ f (fun n P => m n fun xs n1 => ∃ a b c, xs = [a, b, c] ∧ P (⟨a, b, c⟩ : T3 α α α) n1) := fun Bs po φ σ H n st P p Q q =>
  h Bs po φ σ H n st _ p _ fun xs n1 v H1 fp pa a1 i1 g1 => by
    obtain ⟨a, b, c, rfl, pa⟩ := pa
    exact q ⟨a, b, c⟩ n1 v H1 fp pa a1 i1 g1
end
end Bf
namespace Bf
open PySem PySem.Spec PyProof.Rows L2 LamX NdefX
/-! ## x, *xs = a list -/
section
variable {prog : Program} {w : World} {A : Around} {E : Value → Shared → Prop} {s : Shared}
/-- what a list's iterator has left, as a list; the heap grows -/
theorem rest_of {it l : Addr} {items : Array Value} {k : Nat} {Q : List Value → Shared → Prop} (hh : A.handled = none) (hne : l ≠ it) (hi : s.heap.IsListIter it l k) (hl : s.heap.IsList l items) (hk : k ≤ items.size) (hz : items.size ≤ sizeLine)
    (h : ∀ h' tk, (∀ b o, b ≠ it → s.heap.get? b = some o → h'.get? b = some o) → s.heap.objs.size ≤ h'.objs.size → Q (items.toList.drop k) { s with heap := h', toks := tk }) : wpAny (model prog w) A (collect (.ref it)) Q E s := by
  have W := (PySem.W.kun_shift (Walks.list (prog := prog) (w := w) (A := A.in1) hh it l hne items) hk).toS
  obtain ⟨oi, hoi, _⟩ := id hi
  obtain ⟨ol, hol, _⟩ := id hl
  have nI : s.heap.objs.size ≠ it := fun z => Nat.lt_irrefl _ (z ▸ Heap.lt_size hoi)
  have nF : s.heap.objs.size ∉ [it, l] := fun z => by
    rcases List.mem_cons.mp z with z | z
    · exact nI z
    · have z := List.mem_singleton.mp z
      have := Heap.lt_size hol
      rw [← z] at this
      exact Nat.lt_irrefl _ this
  generalize hN : ({ cls := .type "list", data := .seq ([] : List Value).toArray } : Obj) = e0
  have st := W.frame 0 s (s.heap.push e0) s.toks ⟨by rw [Nat.add_zero]; exact hi, hl⟩ (Nat.le_refl _) fun b _ o e => Heap.get?_push_of_some _ e
  have g0 : (s.heap.push e0).get? s.heap.objs.size = some e0 := by
    rw [← hN]
    exact Heap.get?_push_size _ rfl
  have ty : ({ s with heap := s.heap.push e0 } : Shared).TypeIs (.ref it) "list_iterator" := st.1.typeIs
  unfold collect
  refine wpAny_bind (wpAny_runValue (codeAny_builtin F.entry_proto_collect ?_))
  rw [Around.under_plainId F.plain_proto_collect _]
  show wpAny _ A.in1 (newList [] >>= fun l => again (.builtin "list.__iadd__" ⟨[l, .ref it], []⟩)) _ _ s
  refine wpAny_bind (wpAny_newObj_type (wpAny_pure ⟨plainId_quiet F.plain_list_iadd _, codeAny_builtin F.entry_list_iadd ?_⟩))
  rw [Around.under_plainId F.plain_list_iadd _, hN]
  show wpAny _ A.in1 (Builtin.List.listExtendWith (.ref s.heap.objs.size) (.ref it) (.ref s.heap.objs.size)) _ _ _
  unfold Builtin.List.listExtendWith
  refine wpAny_bind (wpAny_typeOf ty ?_)
  rw [if_neg (by simp [Builtin.List.listSameRef, nI])]
  refine wpAny_bind (W.self 0 _ _ _ st (wpAny_bind (wpAny_holding ?_)))
  unfold Builtin.List.listLengthHint
  refine wpAny_bind (wpAny_specialOf ty F.nolen_li ?_)
  show wpAny _ A.in1 (specialOf (Value.ref it) (Str.ofString "__length_hint__") >>= _) _ _ _
  refine wpAny_bind (wpAny_specialOf ty F.hint_li ?_)
  generalize hid : ("list_iterator.__length_hint__" : String) = id0
  wp_delta
  rw [show splitId id0 = some ("list_iterator", "__length_hint__") from by subst hid; decide +kernel]
  subst hid
  refine wpAny_bind (wpAny_isInstance (b := true) ty (by rw [isSubtype_type]; kernel_rfl) (wpAny_pure ?_))
  rw [if_neg (by decide)]
  refine wpAny_pure ⟨plainId_quiet F.plain_extend_loop _, codeAny_extend_loopS W (by omega) _ nF _ (items.size - k) 0 _ #[] 0 rfl (Nat.zero_le _) st (by rw [← hN] at g0 ⊢; exact g0) (ItemsOf.nil _) fun s' acc c hm hs ha => ?_⟩
  show wpAny _ A (load s.heap.objs.size >>= _) _ _ s'
  refine wpAny_bind (wpAny_load hs (wpAny_pure ?_))
  obtain ⟨h', g', d', t', o'⟩ := s'
  obtain ⟨m1, m2, m3, m4, _⟩ := hm
  have m2 : g' = s.gens := m2
  have m3 : d' = s.drawn := m3
  have m4 : o' = s.os := m4
  subst m2 m3 m4
  rw [PySem.W.kun_acc hk ha]
  refine h h' t' (fun b o hb e => m1 b o (fun z => ?_) (Heap.get?_push_of_some _ e)) (Nat.le_of_lt (Heap.lt_size hs))
  rcases List.mem_cons.mp z with z | z
  · rw [z] at e
    exact Nat.lt_irrefl _ (Heap.lt_size e)
  · exact hb (by simpa using z)
end
section
variable {prog : Program} {w : World} {A : Around} {E : Value → Shared → Prop} {s : Shared}
theorem star_items {l : Addr} {items : Array Value} {x : Value} {rest : List Value} {Q : List Value → Shared → Prop} (hl : s.heap.IsList l items) (hh : A.handled = none) (e : items.toList = x :: rest) (hz : items.size ≤ sizeLine)
    (h : ∀ h' tk D, (∀ b o, s.heap.get? b = some o → h'.get? b = some o) → s.heap.objs.size ≤ D → h'.get? D = some (seqObj "list" rest.toArray 0) → Q [x, .ref D] { s with heap := h', toks := tk }) : wpAny (model prog w) A (unpackItems (.ref l) 2 (some 1)) Q E s := by
  obtain ⟨ol, hol, _⟩ := id hl
  have hlt : l ≠ s.heap.objs.size := Nat.ne_of_lt (Heap.lt_size hol)
  have hsz : items.size = rest.length + 1 := by
    rw [← Array.length_toList, e]
    rfl
  -- the list can be gone through: its iterator
  refine wpAny_bind (wpAny_bind (wpAny_specialOf hl.typeIs slot_list_iter.lookup (wpAny_pure ?_)))
  simp only [Bool.false_eq_true, if_false]
  refine wpAny_bind (wpAny_holding (wpAny_pyIter_list hl ?_))
  -- the first
  refine wpAny_bind (wpAny_holding (PySem.W.kun_draw hlt 1 0 _ _ ⟨_, Heap.get?_push_size _ rfl, rfl, rfl⟩ (hl.push _) (by omega) fun h1 it1 sb => ?_))
  have l1 : h1.IsList l items := (hl.push _).extBut sb.extBut hlt
  rw [List.drop_zero, e]
  obtain ⟨oi, hoi, _⟩ := id it1
  obtain ⟨o1, ho1, _⟩ := id l1
  show wpAny _ _ (do
    let rest ← holding [x] (collect (.ref s.heap.objs.size))
    if rest.length < 0 then
      rule "unpack.star.too-few"
      raiseError "ValueError" s!"not enough values to unpack (expected at least {2 - 1}, got {1 + rest.length})"
    return [x] ++ [← newList (rest.take rest.length)] ++ rest.drop rest.length) _ _ _
  refine wpAny_bind (wpAny_holding (rest_of (s := { s with heap := h1 }) (k := 1) hh hlt it1 l1 (by omega) hz fun h2 tk hk hsz2 => ?_))
  rw [e]
  have kp : ∀ b o, s.heap.get? b = some o → h2.get? b = some o := fun b o z => hk b o (Nat.ne_of_lt (Heap.lt_size z)) (sb.extBut b o (Nat.ne_of_lt (Heap.lt_size z)) (Heap.get?_push_of_some _ z))
  have sz : s.heap.objs.size ≤ h2.objs.size := Nat.le_trans (Nat.le_of_lt (Heap.lt_size hoi)) hsz2
  show wpAny _ _ (if rest.length < 0 then _ else _) _ _ _
  rw [if_neg (Nat.not_lt_zero _)]
  show wpAny _ _ (newList (rest.take rest.length) >>= fun d => pure ([x] ++ [d] ++ rest.drop rest.length)) _ _ _
  rw [List.take_length, List.drop_length]
  exact wpAny_bind (wpAny_newList (wpAny_pure (h _ _ h2.objs.size (fun b o z => Heap.get?_push_of_some _ (kp b o z)) sz (Heap.get?_push_size _ rfl))) (by omega))
end
/-- x, *xs -/
def gStar (K : PySem.W.Frag) (t : TGs) : TG := fun v σ H Q => ∃ a x rest, v = .ref a ∧ SqL K H a (x :: rest) ∧ ∀ p, H p = none → t [x, .ref p] σ (upd H p (.lst rest)) Q
section
variable {X : Cx}
theorem pg_star {e1 e2 : Expr} {k : Nat} {sp pos : Pos} {t : TGs} (hc : X.calm = true) (h : PGs X [e1, e2] t) (hn : (assignEach [e1, .Starred e2 sp] X.env).length = 2 := by rfl) (hst : (assignEach [e1, .Starred e2 sp] X.env).findIdx? (·.1) = some 1 := by rfl)
    (hm : (assignEach [e1, .Starred e2 sp] X.env).map (·.2) = (assignEach [e1, e2] X.env).map (·.2) := by rfl) : PG X (.Tuple [e1, .Starred e2 sp] k pos) (gStar X.K t) := by
  refine ⟨fun pins s σ H v u Q I r hw => ?_⟩
  obtain ⟨a, x, rest, rfl, hq, hw⟩ := hw
  cases r
  obtain ⟨its, rv, pl, hz⟩ := I.list hq
  cases rv with
  | cons rx rr =>
    rename_i x' its'
    rw [assign_Tuple]
    refine wpAny_bind (wpAny_standAt ?_)
    unfold unpack
    rw [hn, hst, hm]
    refine wpAny_bind (wpAny_holding (star_items (x := x') (rest := its') pl.isList (I.ok.hd hc) (by simp) (by have := rr.length; simp at hz ⊢; omega) fun h' tk D kp hD gD => ?_))
    have hl : rest.length ≤ sizeLine := by simp at hz; omega
    have I1 : Inv X pins σ (upd H D (.lst rest)) { s with heap := h', toks := tk } := I.laid kp hD ⟨hl, its', 0, rr, gD⟩
    exact h.run pins _ σ _ [x, .ref D] [x', .ref D] Q I1 (.cons rx (.cons rfl .nil)) (hw D (I.hok.fresh hD))
end
section
variable {K : PySem.W.Frag} {T : List (Addr × Str)} {ρ : List Sl} {C : Option Addr → Prop}
variable {α R S B : Type} [Enc α] [Enc R] {ρn : S → List Sl} {ρb : B → List Sl}
theorem rb_star [Pu α] {te : TE} {tu : TS} {i j : Nat} {m : M (Lst α)} {k : α → List α → M (Ctl R B S)} {ρ2 : α → List α → List Sl} (he : RE K T te ρ true m) (hi : i < ρ.length) (hj : j < ρ.length) (e : ∀ a xs, (ρ.set i (.own (enc a))).set j (.own (enc (⟨xs⟩ : Lst α))) = ρ2 a xs) (hu : ∀ a xs, RB K T C tu (ρ2 a xs) (k a xs) ρn ρb) :
    RB K T C (tSeq (tAsg te (gStar K (gCons (gName i) (gCons (gName j) gNil)))) tu) ρ (fun n P => m n fun xs n1 => ∃ a r, xs.l = a :: r ∧ k a r n1 P) ρn ρb := fun Bs po hC σ H n ⟨φ, st⟩ P p D h1 h2 h3 =>
  he Bs po φ σ H n st _ p _ fun xs n1 v H1 fp pa a1 im f => by
    obtain ⟨a, r, exs, pa⟩ := pa
    obtain ⟨ad, vs, fq, rfl, hT, hA, _⟩ := im_lst im
    have hA : ImA K H1 vs (xs.l.map enc) fq := hA
    rw [exs] at hA
    cases hA with
    | @cons v0 vr _ _ f0 f1 _ i0 ir _ =>
    obtain rfl := Pu.pu i0
    obtain rfl := ima_pu ir
    refine ⟨ad, v0, vr, rfl, .inl (.inl hT), fun p np => ?_⟩
    have st1 := st.af a1
    have an : Af K T po H1 n1 (upd H1 p (.lst vr)) n1 := Af.new np
    have sn : Same H1 (upd H1 p (.lst vr)) := same_new (Same.refl H1) np
    have gp : Fp H1 po true [p] := fp_new st1 ⟨List.nodup_cons.mpr ⟨List.not_mem_nil, List.nodup_nil⟩, fun x hx => by rw [List.mem_singleton.mp hx]; exact np⟩
    have st2 := (st1.af an).put0 hi (i0.same sn)
    have il : Im K (upd H1 p (.lst vr)) (.ref p) (enc (⟨r⟩ : Lst α)) [p] := .lst upd_same (ir.same sn) rfl
    have st3 := st2.put (i := j) (by rw [List.length_set]; exact hj) il (List.nodup_cons.mpr ⟨List.not_mem_nil, List.nodup_nil⟩) fun c hc => by
      obtain ⟨z1, z2, z3⟩ := (st1.fresh_new gp j).2 c hc
      refine ⟨z1, z2, fun l d hl el => ?_⟩
      show c ∉ (if l = i then [] else φ l)
      by_cases hli : l = i
      · rw [if_pos hli]
        exact List.not_mem_nil
      · rw [if_neg hli]
        rw [List.getElem?_set, if_neg (Ne.symm hli)] at el
        exact z3 l d hl el
    rw [e a r] at st3
    have a12 := a1.trans an
    exact ⟨_, _, rfl, _, _, rfl, rfl, (hu a r).go (Bs := Bs) hC ⟨_, st3⟩ pa (fun b o z => z) a12.fr.tup h1 h2 h3⟩
end
end Bf
namespace Bf
open PySem PySem.Spec PyProof.Rows L2 LamX NdefX
/-! ## texts: what is None, what is a text, or with lists, + -/
section
variable {K : PySem.W.Frag} {T : List (Addr × Str)} {ρ : List Sl} {α : Type} [Enc α]
theorem uw_isNS : UnW K (fun x H (Q : VK) => Q (.bl (decide (x = .non))) H) (fun x : Str => retW false) := unw_pure fun x H v fp i1 n P p => by
  obtain ⟨rfl, rfl⟩ := im_str i1
  exact ⟨_, _, p, .bl _, fun Q q => q⟩
theorem uw_isNM : UnW K (fun x H (Q : VK) => Q (.bl (decide (x = .non))) H) (fun x : Option (Lst α) => retW x.isNone) := unw_pure fun x H v fp i1 n P p => by
  cases x with
  | none => cases i1; exact ⟨_, _, p, .bl _, fun Q q => q⟩
  | some a =>
    obtain ⟨b, vs, fq, rfl, _, _, _⟩ := im_lst (xs := a) i1
    exact ⟨_, _, p, .bl _, fun Q q => q⟩
theorem isi_SS (a : Str) (H : Hp) (v : V) (fp : List Addr) (i : Im K H v (enc a) fp) : ∃ t, TyX K H v t ∧ PySem.W.kitOne K t (.type "str") = some true := by
  obtain ⟨rfl, rfl⟩ := im_str i
  exact ⟨_, .base (.str _), kit_ty (by decide +kernel)⟩
def orLW (a b : M (Lst α)) : M (Lst α) := bindW a fun xs => if xs.l.isEmpty = true then b else retW xs
theorem re_orL {ta tb : TE} {a b : M (Lst α)} {f1 f2 : Bool} (ha : RE K T ta ρ f1 a) (hb : RE K T tb ρ f2 b) : RE K T (tOrT K ta tb) ρ false (orLW a b) := fun Bs po φ σ H n st P p Q q => ha Bs po φ σ H n st _ p _ fun x n1 v H1 fp pa a1 i1 g1 => by
  obtain ⟨c, vs, fq, rfl, hT, hA, hf⟩ := im_lst i1
  have e : x.l.isEmpty = vs.isEmpty := by
    have l : vs.length = x.l.length := by
      have := ImA.len hA
      rwa [List.length_map] at this
    cases hx : x.l with
    | nil => rw [hx] at l; cases vs with
      | nil => rfl
      | cons _ _ => cases l
    | cons _ _ => rw [hx] at l; cases vs with
      | nil => cases l
      | cons _ _ => rfl
  refine ⟨!vs.isEmpty, .inl ⟨vs, .inl (.inl hT), rfl⟩, ?_⟩
  cases hv : vs.isEmpty with
  | true =>
    rw [hv] at e
    dsimp only at pa
    rw [if_pos e] at pa
    exact (if_neg (by decide)).mpr (hb Bs po φ σ H1 n1 (st.af a1) _ pa _ fun y n2 w H2 fq2 pb a2 i2 g2 => q y n2 w H2 fq2 pb (a1.trans a2) i2 (Fp.weak (Fp.back a1.fr g2)))
  | false =>
    rw [hv] at e
    dsimp only at pa
    rw [if_neg (by rw [e]; decide)] at pa
    exact (if_pos rfl).mpr (q x n1 _ H1 fp pa a1 i1 (Fp.weak g1))
theorem reb_getW {t : TE} {m : M (Option α)} (h : REB K T t ρ m) : REB K T t ρ (getW m) := fun Bs po φ σ H n st P p Q q => h Bs po φ σ H n st _ p Q fun o n' v H' fp pa af im f => by
  obtain ⟨a, rfl, pa⟩ := pa
  exact q a n' v H' fp pa af im f
theorem ow_addS : OpW K (fun x y H (Q : VK) => ∃ i j, x = .str i ∧ y = .str j ∧ i.length + j.length ≤ sizeLine ∧ Q (.str (i ++ j)) H) (fun a b : Str => reqW (a.length + b.length ≤ sizeLine) (retW (a ++ b))) := opw_pure fun a b H v w fp fq i1 i2 n P p => by
  obtain ⟨rfl, rfl⟩ := im_str i1
  obtain ⟨rfl, rfl⟩ := im_str i2
  exact ⟨_, _, p.2, .str _, fun Q q => ⟨a, b, rfl, rfl, p.1, q⟩⟩
end
section
variable {K : PySem.W.Frag} {T : List (Addr × Str)} {ρ : List Sl} {C : Option Addr → Prop}
variable {α R S B : Type} [Enc α] {ρn : S → List Sl} {ρb : B → List Sl}
theorem rb_retvIf {tc : L2.TT} {tu : TS} {i : Nat} {c : M Bool} {a : α} (hc : RT K T tc ρ c) (hi : ρ[i]? = some (.own (enc a))) : RB K T C (tSeq (tRet (tIf tc (tVar i) (tC .non))) tu) ρ (bindW c fun x => retW (.ret (if x = true then some a else none))) ρn ρb := fun Bs po hC σ H n ⟨φ, st⟩ P p D h1 h2 h3 =>
  hc Bs po φ σ H n st _ p _ fun x n1 H1 pa a1 => by
    have st1 := st.af a1
    cases x with
    | true =>
      obtain ⟨v, e1, e2, e3, e4⟩ := st1.sl i _ hi
      exact (if_pos rfl).mpr ⟨v, e1, h3 (some a) n1 v H1 (φ i) pa st1.tabs (fun b o z => (st1.base b o z).1) st1.pot a1.fr.tup e2 e3 e4⟩
    | false =>
      exact (if_neg (by decide)).mpr (h3 none n1 _ H1 [] pa st1.tabs (fun b o z => (st1.base b o z).1) st1.pot a1.fr.tup .non List.nodup_nil fun b hb => nomatch hb)
end
end Bf
namespace Bf
open PySem PySem.Spec PyProof.Rows L2
theorem scPot : FnScope ["_law_script", "_law_k", "_law_cell", "_law_own"] ["_law_script", "_law_k"] (defScope sPot) := ⟨rfl, rfl, rfl, by decide +kernel, rfl, by decide +kernel, by decide +kernel⟩
theorem scTake : FnScope ["_law_pot_here", "_law_size", "_law_digit", "_law_turn", "_law_prime", "_law_mixed"] ["_law_pot_here", "_law_size"] (defScope sTake) := ⟨rfl, rfl, rfl, by decide +kernel, rfl, by decide +kernel, by decide +kernel⟩

section
variable {P : Program} {w : World} {K : PySem.W.Frag} {mg : Str → Option Value} {base : Heap} {f fT fO fF : Addr} {fd fdT fdO fdF : FuncData} {k : Nat}
/-! ### pot -/
def spPot (K : PySem.W.Frag) : Sp := fun vs H Q _ => ∃ (a : Addr) (ns : List Int) (k : Nat), vs = [.ref a, .int k] ∧ SqL K H a (ns.map V.int) ∧ ns.length ≤ 63 ∧ k ≤ 100 ∧
  ∀ H' p, Same H H' → H p = none → Pot H' p 0 → Q (.ref p) H'
theorem ok_pot (F : Fun K "_law_pot" "_law_pot" sPot f fd) (ml : mg "len" = none) (ma : mg "abs" = none) (mi : mg "int" = none) : FnOk P w K mg base CX0 (k + 1) f fd ["_law_script", "_law_k"] (spPot K) := by
  refine F.ok scPot (fun vs H Q E h => ?_) (fun cdv A outer s H vs Q E hr h => ?_)
  · obtain ⟨a, ns, k, rfl, _⟩ := h
    rfl
  · obtain ⟨a, ns, k, rfl, hS, hl, hk, q⟩ := h
    refine ⟨_, pss_cons (ps_set (i := 2) scPot.nd rfl (.inl rfl) (pe_ifExp (pt_cmpR op_lt (pv 1) (pe_callB call_len_seq (by rfl) ml PySem.boot_len (pa_cons (pv 0) pa_nil)) (nomark _)) (pe_ix ix_list (pv 0) (pv 1) (fun _ _ => rfl)) pe_int))
      (pss_cons (ps_set (i := 3) scPot.nd rfl (.inl rfl) (pe_ifExp (pt_cmpR op_ge (pe_callB call_abs (by rfl) ma (by decide +kernel) (pa_cons (pv 2) pa_nil)) (pe_op op_pow pe_int pe_int) (nomark _)) (pe_callB call_abs (by rfl) ma (by decide +kernel) (pa_cons (pv 2) pa_nil)) pe_int))
      (pss_one (ps_ret (pe_lst (pa_cons (pv 3) (pa_cons (pe_op op_mod (pe_op op_mul (pe_op op_add (pe_op op_add (pe_op op_mod (pv 2) pe_int) (pe_op op_mul (pe_op op_mul pe_int (pv 1)) (pv 1))) pe_int) pe_int) pe_int) (pa_cons pe_int pa_nil))))))), ?_⟩
    have fin : ∀ (x y : Int), 0 ≤ x → 0 ≤ y → y < 4611686018427387904 → ∀ p, H p = none → Q (.ref p) (upd H p (.lst [.int x, .int y, .int 0])) := fun x y h1 h2 h3 p np =>
      q _ p (same_new (Same.refl H) np) np ⟨x, y, 0, upd_same, h1, h2, h3, by omega, by omega⟩
    refine rd_ifI (decide ((k : Int) < ((ns.map V.int).length : Int))) (fun _ => True) ?_ ?_ ?_ ?_
    · exact fun Q' h => ⟨.int k, rfl, .ref a, rfl, a, _, rfl, .inl hS, _, _, rfl, rfl, _, rfl, h⟩
    · intro e
      have z : (k : Int) < ((ns.map V.int).length : Int) := of_decide_eq_true e
      rw [List.length_map] at z
      have z2 : k < ns.length := by omega
      exact ⟨ns[k], trivial, fun Q' h => ⟨.ref a, rfl, .int k, rfl, a, _, _, _, rfl, rfl, hS, atI_nat (j := k) (by rw [List.getElem?_map, List.getElem?_eq_getElem z2]; rfl), h⟩⟩
    · exact fun _ => ⟨0, trivial, fun Q' h => h⟩
    intro c _
    have habs : (0 : Int) ≤ if c < 0 then -c else c := by split <;> omega
    dsimp only [gName, tSeq, tAsg]
    refine rd_ifI (decide ((10 : Int) ^ (18 : Int).toNat ≤ (if c < 0 then -c else c))) (fun n => 0 ≤ n) ?_ ?_ ?_ ?_
    · exact fun Q' h => ⟨.int c, rfl, c, rfl, _, _, rfl, rfl, ⟨by decide, by decide, by decide⟩, _, _, rfl, rfl, _, rfl, h⟩
    · exact fun _ => ⟨_, habs, fun Q' h => ⟨.int c, rfl, c, rfl, h⟩⟩
    · exact fun _ => ⟨0, Int.le_refl 0, fun Q' h => h⟩
    intro own hown
    refine ⟨.int own, rfl, .int c, rfl, _, _, rfl, rfl, (show (0 : Int) < 2305843009213693951 by decide), .int k, rfl, _, _, rfl, rfl, .inl ⟨by decide, by decide⟩, .int k, rfl, _, _, rfl, rfl, .inr ⟨by omega, by omega⟩, _, _, rfl, rfl, _, _, rfl, rfl, _, _, rfl, rfl,
      .inr ⟨by decide, by decide⟩, _, _, rfl, rfl, (show (0 : Int) < 2305843009213693921 by decide), (by show 3 ≤ sizeLine; decide), fun p np => ?_⟩
    exact fin own _ hown (Int.emod_nonneg _ (by decide)) (Int.lt_trans (Int.emod_lt_of_pos _ (by decide)) (by decide)) p np
/-! ### take -/
def spTake : Sp := fun vs H Q _ => ∃ (a : Addr) (n m : Nat), vs = [.ref a, .int n] ∧ 0 < n ∧ n < 2305843009213693952 ∧ Pot H a m ∧ m < 100000 ∧ ∀ (r : Nat) H', r < n → Keeps a H H' → Pot H' a (m + 1) → Q (.int r) H'
theorem ok_take (F : Fun K "_law_take" "_law_take" sTake f fd) : FnOk P w K mg base CX0 (k + 1) f fd ["_law_pot_here", "_law_size"] spTake := by
  refine F.ok scTake (fun vs H Q E h => ?_) (fun cdv A outer s H vs Q E hr h => ?_)
  · obtain ⟨a, n, m, rfl, _⟩ := h
    rfl
  · obtain ⟨a, n, m, rfl, hn, hn2, ⟨x, y, z, hH, hx, hy, hy2, hz, hz2⟩, hm, q⟩ := h
    refine ⟨_, pss_cons (ps_if (pt_cmpR op_gt (pe_ix ix_list (pv 0) pe_int (fun _ _ => rfl)) pe_int (nomark _))
        (pss_cons (ps_set (i := 2) scTake.nd rfl (.inl rfl) (pe_op op_mod (pe_ix ix_list (pv 0) pe_int (fun _ _ => rfl)) (pv 1)))
        (pss_cons (ps_asg (pe_op op_fdivW (pe_ix ix_list (pv 0) pe_int (fun _ _ => rfl)) (pv 1)) (pg_sub (pv 0) pe_int set_list))
        (pss_one (ps_ret (pv 2))))) pss_nil)
      (pss_cons (ps_set (i := 3) scTake.nd rfl (.inl rfl) (pe_op op_add (pe_ix ix_list (pv 0) pe_int (fun _ _ => rfl)) pe_int))
      (pss_cons (ps_asg (pv 3) (pg_sub (pv 0) pe_int set_list))
      (pss_cons (ps_set (i := 4) scTake.nd rfl (.inl rfl) (pe_ix ix_list (pe_lst (pa_cons pe_int (pa_cons pe_int (pa_cons pe_int (pa_cons pe_int pa_nil))))) (pe_op op_mod (pv 3) pe_int) (fun _ _ => rfl)))
      (pss_cons (ps_set (i := 5) scTake.nd rfl (.inl rfl) (pe_op op_mod (pe_op op_pow (pe_op op_add (pe_op op_add (pe_ix ix_list (pv 0) pe_int (fun _ _ => rfl)) (pe_op op_mul (pe_op op_mul pe_int (pv 3)) (pv 3))) (pe_op op_mul pe_int (pv 3))) pe_int) (pv 4)))
      (pss_one (ps_ret (pe_op op_mod (pe_op op_add (pe_op op_fdiv (pv 5) pe_int) (pe_op op_mul (pe_op op_fdiv (pv 5) pe_int) pe_int)) (pv 1)))))))), ?_⟩
    have hL : SqL K H a [.int x, .int y, .int z] := .inl (.inl hH)
    have hnI : (0 : Int) < (n : Int) := by omega
    refine ⟨.ref a, rfl, a, _, _, .int x, rfl, rfl, hL, rfl, _, _, rfl, rfl, _, rfl, ite2 (fun e => ?_) (fun e => ?_)⟩
    · obtain ⟨r, er, hr2⟩ := nat_of (n := n) (Int.emod_nonneg x (Int.ne_of_gt hnI)) (Int.emod_lt_of_pos x hnI)
      refine ⟨.ref a, rfl, a, _, _, .int x, rfl, rfl, hL, rfl, .int n, rfl, _, _, rfl, rfl, hnI, ?_⟩
      refine ⟨.ref a, rfl, a, _, _, .int x, rfl, rfl, hL, rfl, .int n, rfl, _, _, rfl, rfl, wide_div (b := 61) hnI (by show (n : Int).natAbs < 2305843009213693952; omega) (by decide) (by decide), .ref a, rfl, a, _, _, 0, rfl, rfl, hH, rfl, .int (x % n), rfl, ?_⟩
      rw [er]
      exact q r _ hr2 (Keeps.refl a H).at ⟨x / n, y, z, upd_same, Int.ediv_nonneg hx (Int.le_of_lt hnI), hy, hy2, hz, by omega⟩
    · refine ⟨.ref a, rfl, a, _, _, .int z, rfl, rfl, hL, rfl, _, _, rfl, rfl, .int (z + 1), rfl, .ref a, rfl, a, _, _, 2, rfl, rfl, hH, rfl, (by show 4 ≤ sizeLine; decide), fun p np => ?_⟩
      obtain ⟨v, hv, hv0⟩ := primes4 ((z + 1) % 4) (Int.emod_nonneg _ (by decide)) (Int.emod_lt_of_pos _ (by decide))
      have hap : a ≠ p := fun e => by
        rw [← e, upd_same] at np
        cases np
      have hL2 : SqL K (upd (upd H a (.lst [.int x, .int y, .int (z + 1)])) p (.lst [V.int 2305843009213693951, .int 999999999989, .int 1000000000039, .int 67280421310721])) a [.int x, .int y, .int (z + 1)] := .inl (.inl (by rw [upd_ne hap, upd_same]))
      refine ⟨.int (z + 1), rfl, _, _, rfl, rfl, (show (0 : Int) < 4 by decide), p, _, _, .int v, rfl, rfl, .inl (.inl upd_same), hv, ?_⟩
      have hb : (y + 7919 * (z + 1) * (z + 1) + 65537 * (z + 1)).natAbs < 2 ^ 64 := by
        have z1 : 7919 * (z + 1) ≤ 7919 * 100001 := by omega
        have z2 : 7919 * (z + 1) * (z + 1) ≤ 7919 * 100001 * 100001 := Int.mul_le_mul z1 (by omega) (by omega) (by decide)
        have z3 : 0 ≤ 7919 * (z + 1) * (z + 1) := Int.mul_nonneg (by omega) (by omega)
        omega
      refine ⟨.ref a, rfl, a, _, _, .int y, rfl, rfl, hL2, rfl, .int (z + 1), rfl, _, _, rfl, rfl, .inl ⟨by decide, by decide⟩, .int (z + 1), rfl, _, _, rfl, rfl, .inr ⟨by omega, by omega⟩, _, _, rfl, rfl, .int (z + 1), rfl, _, _, rfl, rfl, .inl ⟨by decide, by decide⟩, _, _, rfl, rfl,
        _, _, rfl, rfl, ⟨by decide, by decide, hb⟩, .int v, rfl, _, _, rfl, rfl, hv0, ?_⟩
      refine ⟨_, rfl, _, _, rfl, rfl, ⟨by decide, by decide⟩, _, rfl, _, _, rfl, rfl, ⟨by decide, by decide⟩, _, _, rfl, rfl, .inr ⟨by decide, by decide⟩, _, _, rfl, rfl, .int n, rfl, _, _, rfl, rfl, hnI, ?_⟩
      generalize (_ : Int) / 4099 + _ = g
      obtain ⟨r, er, hr2⟩ := nat_of (n := n) (Int.emod_nonneg g (Int.ne_of_gt hnI)) (Int.emod_lt_of_pos g hnI)
      show Q (.int (g % n)) _
      rw [er]
      refine q r _ hr2 ((Keeps.refl a H).at.new np) ⟨x, y, z + 1, by rw [upd_ne hap, upd_same]; rfl, hx, hy, hy2, by omega, by omega⟩
end
/-! ### of -/
section
variable {P : Program} {w : World} {K : PySem.W.Frag} {mg : Str → Option Value} {base : Heap} {f fT fO fF : Addr} {fd fdT fdO fdF : FuncData} {k : Nat}
theorem scOf : FnScope ["_law_pot_here", "_law_some"] ["_law_pot_here", "_law_some"] (defScope sOf) := ⟨rfl, rfl, rfl, by decide +kernel, rfl, by decide +kernel, by decide +kernel⟩
def spOf (K : PySem.W.Frag) : Sp := fun vs H Q _ => ∃ (a b : Addr) (xs : List V) (m : Nat), vs = [.ref a, .ref b] ∧ (∀ H', Keeps a H H' → SqL K H' b xs) ∧ 0 < xs.length ∧ xs.length < 1073741824 ∧ Pot H a m ∧ m < 100000 ∧ ∀ v H', v ∈ xs → Keeps a H H' → Pot H' a (m + 1) → Q v H'
theorem ok_of (F : Fun K "_law_of" "_law_of" sOf f fd) (GT : FnOk P w K mg base CX0 1 fT fdT ["_law_pot_here", "_law_size"] spTake) (kT : PySem.W.keepIn K (.ref fT) = true) (bT : Binds K fdT ["_law_pot_here", "_law_size"] []) (gT : mg "_law_take" = some (.ref fT)) (ml : mg "len" = none) :
    FnOk P w K mg base CX0 2 f fd ["_law_pot_here", "_law_some"] (spOf K) := by
  refine F.ok scOf (fun vs H Q E h => ?_) (fun cdv A outer s H vs Q E hr h => ?_)
  · obtain ⟨a, b, xs, m, rfl, _⟩ := h
    rfl
  · obtain ⟨a, b, xs, m, rfl, hS, h0, h1, hp, hm, q⟩ := h
    refine ⟨_, pss_one (ps_ret (pe_ix ix_list (pv 1) (pe_call GT hr (by rfl) gT kT bT .nil pass0 (pa_cons (pv 0) (pa_cons (pe_callB call_len_seq (by rfl) ml PySem.boot_len (pa_cons (pv 1) pa_nil)) pa_nil))) (fun _ _ => rfl))), ?_⟩
    refine ⟨.ref b, rfl, .ref a, rfl, .ref b, rfl, b, xs, rfl, .inl (hS H (Keeps.refl a H)), a, xs.length, m, rfl, h0, by omega, hp, hm, fun r H' hr1 kp hp' => ?_⟩
    refine ⟨b, xs, r, xs[r], rfl, rfl, hS H' kp, atI_nat (List.getElem?_eq_getElem hr1), ?_⟩
    exact q _ H' (List.getElem_mem hr1) kp hp'
end

section
variable {P : Program} {w : World} {K : PySem.W.Frag} {mg : Str → Option Value} {base : Heap} {f : Addr} {fd : FuncData} {k : Nat} {T : List (Addr × Str)}
theorem ad_take (F : FnOk P w K mg base CX0 k f fd ["_law_pot_here", "_law_size"] spTake) : FnOk P w K mg base CX0 k f fd ["_law_pot_here", "_law_size"] (spP1 K T takeW) := F.imp fun vs H Q E h => by
  obtain ⟨q, n, a, v, f1, rfl, ⟨i1, j1⟩, tb, pp, P0, ⟨⟨h1, h2, h3⟩, hd⟩, hq⟩ := h
  cases i1
  exact ⟨q, a, n, rfl, h1, h2, pp, h3, fun r H' lr kk p' => hq r (n + 1) _ H' [] (hd r lr) (af_keeps pp kk p') (.int _) List.nodup_nil fun b hb => absurd hb List.not_mem_nil⟩
theorem ad_of {α : Type} [Enc α] [Pu α] (F : FnOk P w K mg base CX0 k f fd ["_law_pot_here", "_law_some"] (spOf K)) : FnOk P w K mg base CX0 k f fd ["_law_pot_here", "_law_some"] (spP1 K T (ofW (α := α))) := F.imp fun vs H Q E h => by
  obtain ⟨q, n, xs, v, f1, rfl, ⟨i1, j1⟩, tb, pp, P0, ⟨⟨h1, h2, h3⟩, hd⟩, hq⟩ := h
  obtain ⟨a, ws, fq, rfl, hT, hA, e⟩ := im_lst i1
  have z := ima_pu hA
  subst z e
  have hl := hA.len
  rw [List.length_map] at hl
  have hne : a ≠ q := j1 a List.mem_cons_self
  refine ⟨q, a, ws, n, rfl, fun H' kk => .inl (.inl (kk _ _ hne hT)), by omega, by omega, pp, h3, fun v H' hv kk p' => ?_⟩
  obtain ⟨x, hx, im⟩ := ima_mem hA hv
  have af := af_keeps (K := K) (T := T) pp kk p'
  exact hq x (n + 1) _ H' [] (hd x hx) af (im.af (po := some q) (fun b hb => absurd hb List.not_mem_nil) af.fr) List.nodup_nil fun b hb => absurd hb List.not_mem_nil
theorem urn_pot {Bs : Addr → HO → Prop} {po : Option Addr} {ρ : List Sl} {φ : Nat → List Addr} {σ : L2.St} {H : Hp} {n : Nat} {ns : List Int} {kk i2 : Nat} {Q : VK} (st : ST K T Bs po ρ φ σ H n) (hi : ρ[0]? = some (.scr ns)) (hk : ρ[i2]? = some (.own (enc kk))) (c : ns.length ≤ 63 ∧ kk ≤ 100)
    (q : ∀ a H', Same H H' → H a = none → Pot H' a 0 → Q (.ref a) H') : tCall (spPot K) [] E0 (tCons (tVar 0) (tCons (tVar i2) tNil)) σ H Q := by
  obtain ⟨a, h1, h2⟩ := scr_sql st hi
  obtain ⟨v, e1, e2, _⟩ := st.sl i2 _ hk
  generalize φ i2 = fp at e2
  cases e2
  exact ⟨_, h1, _, e1, a, ns, kk, rfl, h2, c.1, c.2, fun H' p s np pt => q p H' s np pt⟩
end
end Bf
namespace Bf
open PySem PySem.Spec PyProof.Rows L2 LamX NdefX
noncomputable section
variable {P : Program} {w : World} {K : PySem.W.Frag} {mg : Str → Option Value} {base : Heap} {f : Addr} {fd : FuncData} {k : Nat} {T : List (Addr × Str)}
theorem rk_shp_3_0123 {K : PySem.W.Frag} {T : List (Addr × Str)} {ρ : List Sl} {α1 α2 α3 α4 R : Type} [Enc α1] [Enc α2] [Enc α3] [Enc α4] [Enc R] {f : α1 → α2 → α3 → α4 → M R} {E : XK} {t1 : TE} {m1 : M α1} {b1 : Bool} (h1 : RE K T t1 ρ b1 m1) {t2 : TE} {m2 : M α2} {b2 : Bool} (h2 : RE K T t2 ρ b2 m2) {t3 : TE} {m3 : M α3} {b3 : Bool} (h3 : RE K T t3 ρ b3 m3) {t4 : TE} {m4 : M α4} {b4 : Bool} (h4 : RE K T t4 ρ b4 m4) : RE K T (tCallK (spW4 K T f) (gN 3 [0, 1, 2, 3]) E (tCons t1 (tCons t2 (tCons t3 tNil))) (tCons t4 tNil)) ρ true (c4W m1 m2 m3 m4 fun a1 a2 a3 a4 => pureW (f a1 a2 a3 a4)) := fun Bs po φ σ H n st P p Q q =>
  h1 Bs po φ σ H n st _ p _ fun a1 n1 v1 H1 f1 p1 x1 i1 g1 =>
  h2 Bs po φ σ H1 n1 (st.af x1) _ p1 _ fun a2 n2 v2 H2 f2 p2 x2 i2 g2 =>
  h3 Bs po φ σ H2 n2 ((st.af x1).af x2) _ p2 _ fun a3 n3 v3 H3 f3 p3 x3 i3 g3 =>
  h4 Bs po φ σ H3 n3 (((st.af x1).af x2).af x3) _ p3 _ fun a4 n4 v4 H4 f4 p4 x4 i4 g4 =>
  ⟨_, _, _, _, _, _, _, _, _, _, _, _, rfl, ⟨(((i1.af g1.1 x2.fr).af g1.1 x3.fr).af g1.1 x4.fr), ((i2.af g2.1 x3.fr).af g2.1 x4.fr), (i3.af g3.1 x4.fr), i4⟩, ((((st.af x1).af x2).af x3).af x4).tabs, _, p4, fun r c v' H' fp pr af im nd hf => q r n4 v' H' fp pr (Af.trans (Af.trans (Af.trans (Af.trans x1 x2) x3) x4) ⟨Fr.weak af.fr, af.tabs, fun a e z => keep_pot af z⟩) im (Fp.back (Af.trans (Af.trans (Af.trans x1 x2) x3) x4).fr ⟨fun b hb => ((((st.af x1).af x2).af x3).af x4).fresh_pot (hf b hb), fun _ => ⟨nd, hf⟩⟩)⟩
theorem rk_shp_0_2310 {K : PySem.W.Frag} {T : List (Addr × Str)} {ρ : List Sl} {α1 α2 α3 α4 R : Type} [Enc α1] [Enc α2] [Enc α3] [Enc α4] [Enc R] {f : α1 → α2 → α3 → α4 → M R} {E : XK} {t1 : TE} {m1 : M α4} {b1 : Bool} (h1 : RE K T t1 ρ b1 m1) {t2 : TE} {m2 : M α3} {b2 : Bool} (h2 : RE K T t2 ρ b2 m2) {t3 : TE} {m3 : M α1} {b3 : Bool} (h3 : RE K T t3 ρ b3 m3) {t4 : TE} {m4 : M α2} {b4 : Bool} (h4 : RE K T t4 ρ b4 m4) : RE K T (tCallK (spW4 K T f) (gN 0 [2, 3, 1, 0]) E tNil (tCons t1 (tCons t2 (tCons t3 (tCons t4 tNil))))) ρ true (c4W m1 m2 m3 m4 fun a1 a2 a3 a4 => pureW (f a3 a4 a2 a1)) := fun Bs po φ σ H n st P p Q q =>
  h1 Bs po φ σ H n st _ p _ fun a1 n1 v1 H1 f1 p1 x1 i1 g1 =>
  h2 Bs po φ σ H1 n1 (st.af x1) _ p1 _ fun a2 n2 v2 H2 f2 p2 x2 i2 g2 =>
  h3 Bs po φ σ H2 n2 ((st.af x1).af x2) _ p2 _ fun a3 n3 v3 H3 f3 p3 x3 i3 g3 =>
  h4 Bs po φ σ H3 n3 (((st.af x1).af x2).af x3) _ p3 _ fun a4 n4 v4 H4 f4 p4 x4 i4 g4 =>
  ⟨_, _, _, _, _, _, _, _, _, _, _, _, rfl, ⟨(i3.af g3.1 x4.fr), i4, ((i2.af g2.1 x3.fr).af g2.1 x4.fr), (((i1.af g1.1 x2.fr).af g1.1 x3.fr).af g1.1 x4.fr)⟩, ((((st.af x1).af x2).af x3).af x4).tabs, _, p4, fun r c v' H' fp pr af im nd hf => q r n4 v' H' fp pr (Af.trans (Af.trans (Af.trans (Af.trans x1 x2) x3) x4) ⟨Fr.weak af.fr, af.tabs, fun a e z => keep_pot af z⟩) im (Fp.back (Af.trans (Af.trans (Af.trans x1 x2) x3) x4).fr ⟨fun b hb => ((((st.af x1).af x2).af x3).af x4).fresh_pot (hf b hb), fun _ => ⟨nd, hf⟩⟩)⟩
theorem rk_rpl_0_0 {K : PySem.W.Frag} {T : List (Addr × Str)} {ρ : List Sl} {α1 R : Type} [Enc α1] [Enc R] {f : α1 → M R} {E : XK} {t1 : TE} {m1 : M α1} {b1 : Bool} (h1 : RE K T t1 ρ b1 m1) : RE K T (tCallK (spW1 K T f) (gN 0 [0]) E tNil (tCons t1 tNil)) ρ true (c1W m1 fun a1 => pureW (f a1)) := fun Bs po φ σ H n st P p Q q =>
  h1 Bs po φ σ H n st _ p _ fun a1 n1 v1 H1 f1 p1 x1 i1 g1 =>
  ⟨_, _, _, rfl, i1, (st.af x1).tabs, _, p1, fun r c v' H' fp pr af im nd hf => q r n1 v' H' fp pr (Af.trans x1 ⟨Fr.weak af.fr, af.tabs, fun a e z => keep_pot af z⟩) im (Fp.back x1.fr ⟨fun b hb => (st.af x1).fresh_pot (hf b hb), fun _ => ⟨nd, hf⟩⟩)⟩
/-! ### spelt -/
def sptB (some_ : (Lst Str)) : M (Ctl Str Unit Unit) :=
  (bindW (b2W (bindW (retW (some_ : (Lst Str))) fun xs : (Lst Str) => retW xs.l.length) (retW (0 : Nat)) (fun a b : Nat => retW (decide (a = b)))) fun B_ => seqW (if B_ = true then (bindW (retW ("-" : Str)) fun r => retW (.ret r)) else (retW (.nxt (() : Unit)))) fun (s_1 : Unit) =>
  (bindW (b2W (retW (" " : Str)) (bindW (retW (some_ : (Lst Str)).l) fun X_ => reqW (X_.length ≤ sizeLine) (lcW (fun (one_2 : Str) => (retW true)) (fun (one_2 : Str) => (bindW (bindW (retW (one_2 : Str)) fun x : Str => retW false) fun X_ => if X_ = true then (retW ("-" : Str)) else (bindW (retW (one_2 : Str)) fun a : Str => retW a))) X_ [])) fun (a : Str) (ys : Lst Str) => reqW (jnOk a ys.l) (retW (Txt.join a ys.l))) fun r => retW (.ret r)))
theorem sptW_ex : ∃ g : (Lst Str) → M Str, ∀ some_, g some_ = outW (sptB some_) := ⟨fun some_ => outW (sptB some_), fun _ => rfl⟩
/-- sealed -/
def sptW : (Lst Str) → M Str := Classical.choose sptW_ex
theorem sptW_eq (some_ : (Lst Str)) : sptW some_ = outW (sptB some_) := Classical.choose_spec sptW_ex some_
theorem sptW_fn : sptW = fun some_ => outW (sptB some_) := funext fun some_ => sptW_eq some_
theorem scSpt : FnScope ["some", "one"] ["some"] (defScope sSpt) := ⟨rfl, rfl, rfl, by decide +kernel, rfl, by decide +kernel, by decide +kernel⟩
theorem ok_spt (F : Fun K "spelt" "spelt" sSpt f fd) (b : Bls2 mg) (k_b_str : mg "str" = none) : FnOk P w K mg base CX0 1 f fd ["some"] (spW1 K T sptW) := by
  refine F.ok scSpt (fun vs H Q E h => ?_) (fun cdv A outer s H vs Q E hr h => ?_)
  · exact spW1_len h
  · refine ⟨_, (pss_cons (ps_if (pt_cmpR op_eq (pe_callB call_len_seq (by rfl) b.len PySem.boot_len (pa_cons (pv 0) pa_nil)) pe_int (nomark _)) (pss_cons (ps_ret pe_str)
      pss_nil) pss_nil)
      (pss_cons (ps_ret (pe_bm PySem.F.plainAttrs_str PySem.F.slot_str_join PySem.F.type_str_join mt_join pe_str (pa_cons (pe_lc (own := [("one", 1)]) (g := (gName 1)) (tt := tYes) (te := (tIf (tB (tIsN (tVar 1))) (tC (.str "-")) (tCB _ (tCons (tVar 1) tNil)))) (by rfl) scSpt.nd (pi_list (pv 0)) (blkOk_by (own := [("one", 1)]) (N := ["some", "one"]) (sc := defScope sSpt) (by decide +kernel)) (fun _ _ _ _ _ => (pg_name (i := 1) scSpt.nd rfl (Or.inl rfl))) (fun _ _ _ _ _ => pts_nil) (fun _ _ _ _ _ => (pe_ifExp (pt_cmp (pc_isN (pv 1))) pe_str (pe_callTy SkE.call_str_str (by rfl) k_b_str (by decide +kernel) (pa_cons (pv 1) pa_nil))))) pa_nil)))
      pss_nil)), w1_run (N := ["some", "one"]) psl_bor (mB := sptB) (ρ := fun (some_ : (Lst Str)) => [.bor (enc (some_ : (Lst Str))), .any]) (ρn := fun _ => []) (ρb := fun _ => []) (C := fun _ => True) (fun _ => rfl) trivial (fun (some_ : (Lst Str)) => 
  (rb_if (ρ1 := fun (s_1 : Unit) => [.bor (enc (some_ : (Lst Str))), .any]) (rt_test (re_op ow_eqN (re_cb uw_lenL (re_bor (i := 0) (a := (some_ : (Lst Str))) rfl)) (re_nat 0)))
  (rb_ret (re_str "-"))
  (rb_end (s := (() : Unit)) ⟨.eq _, ⟨.any _, trivial⟩⟩) (fun (s_1 : Unit) =>
  (rb_ret (re_sm1 ow_joinL (re_str " ") (re_lc (vs := [1]) (ρw := [.bor (enc (some_ : (Lst Str))), .any]) (ρx := fun (one_2 : Str) => [.bor (enc (some_ : (Lst Str))), .own (enc (one_2 : Str))]) rfl (ri_bor (i := 0) (xs := (some_ : (Lst Str))) rfl) (by decide) (fun (one_2 : Str) => (rg_name (i := 1) (ρ' := [.bor (enc (some_ : (Lst Str))), .own (enc (one_2 : Str))]) (show 1 < 2 by decide) rfl)) (fun (one_2 : Str) => rt_yes) (fun (one_2 : Str) => (re_if (rt_val (re_un (ta := (tVar 1)) (t := tIsN (tVar 1)) (fun _ _ _ h => h) uw_isNS (re_v (i := 1) (a := (one_2 : Str)) rfl))) (re_str "-") (re_cb uw_strS (re_v (i := 1) (a := (one_2 : Str)) rfl)))))))))) (by rw [sptW_fn] at h; exact h)⟩
/-! ### show_plan -/
def shpB (hands : Nat) (m : Nat) (plan : (List (List (T3 Nat Nat Nat)))) (source : Nat) : M (Ctl Str Unit Unit) :=
  (bindW (bindW (retW (plan : (List (List (T3 Nat Nat Nat))))) fun X_ => reqW (X_.length ≤ sizeLine) (lcW (fun (beat_1 : (List (T3 Nat Nat Nat))) => (retW true)) (fun (beat_1 : (List (T3 Nat Nat Nat))) => (c1W (bindW (retW (beat_1 : (List (T3 Nat Nat Nat)))) fun X_ => reqW (X_.length ≤ sizeLine) (lcW (fun (x_2 : (T3 Nat Nat Nat)) => (retW true)) (fun (x_2 : (T3 Nat Nat Nat)) => (jsW [(bindW (retW (x_2.a : Nat)) fun n_ => reqW (n_ < 2 ^ 60) (retW (repN n_))), (retW (">" : Str)), (bindW (retW (x_2.b : Nat)) fun n_ => reqW (n_ < 2 ^ 60) (retW (repN n_))), (retW (":" : Str)), (bindW (retW (x_2.c : Nat)) fun n_ => reqW (n_ < 2 ^ 60) (retW (repN n_)))] Str.empty)) X_ [])) fun A_1 => pureW (sptW A_1))) X_ [])) fun (beats_3 : (Lst Str)) =>
  (bindW (b2W (retW ("
" : Str)) (b2W (bindW (b2W (jsW [(retW ("plan " : Str)), (bindW (retW (hands : Nat)) fun n_ => reqW (n_ < 2 ^ 60) (retW (repN n_))), (retW (" " : Str)), (bindW (retW (m : Nat)) fun n_ => reqW (n_ < 2 ^ 60) (retW (repN n_))), (retW (" " : Str)), (bindW (retW (source : Nat)) fun n_ => reqW (n_ < 2 ^ 60) (retW (repN n_)))] Str.empty) (retW ([] : List Str)) fun a as => retW (a :: as)) fun xs => reqW (xs.length ≤ sizeLine) (retW (⟨xs⟩ : Lst Str))) (bindW (retW (beats_3 : (Lst Str)).l) fun X_ => reqW (X_.length ≤ sizeLine) (lcW (fun (words_4 : Str) => (retW true)) (fun (words_4 : Str) => (jsW [(retW ("beat " : Str)), (bindW (retW (words_4 : Str)) fun s_ => reqW (s_.length ≤ sizeLine) (retW s_))] Str.empty)) X_ [])) (fun xs ys : Lst Str => reqW (xs.l.length + ys.l.length ≤ sizeLine) (retW (⟨xs.l ++ ys.l⟩ : Lst Str)))) fun (a : Str) (ys : Lst Str) => reqW (jnOk a ys.l) (retW (Txt.join a ys.l))) fun r => retW (.ret r)))
theorem shpW_ex : ∃ g : Nat → Nat → (List (List (T3 Nat Nat Nat))) → Nat → M Str, ∀ hands m plan source, g hands m plan source = outW (shpB hands m plan source) := ⟨fun hands m plan source => outW (shpB hands m plan source), fun _ _ _ _ => rfl⟩
/-- sealed -/
def shpW : Nat → Nat → (List (List (T3 Nat Nat Nat))) → Nat → M Str := Classical.choose shpW_ex
theorem shpW_eq (hands : Nat) (m : Nat) (plan : (List (List (T3 Nat Nat Nat)))) (source : Nat) : shpW hands m plan source = outW (shpB hands m plan source) := Classical.choose_spec shpW_ex hands m plan source
theorem shpW_fn : shpW = fun hands m plan source => outW (shpB hands m plan source) := funext fun hands => funext fun m => funext fun plan => funext fun source => shpW_eq hands m plan source
theorem scShp : FnScope ["hands", "m", "plan", "source", "beats", "beat", "words", "teller", "hearer", "letter"] ["hands", "m", "plan", "source"] (defScope sShp) := ⟨rfl, rfl, rfl, by decide +kernel, rfl, by decide +kernel, by decide +kernel⟩
theorem ok_shp {f_spt : Addr} {d_spt : FuncData} (F : FunS K "show_plan" sShp f fd) (b : Bls2 mg) (c_spt : CalF P w K mg base 1 "spelt" f_spt d_spt ["some"] (spW1 K T sptW)) : FnOk P w K mg base CX0 2 f fd ["hands", "m", "plan", "source"] (spW4 K T shpW) := by
  refine F.go scShp (fun vs H Q E h => ?_) (fun cdv A outer s H vs Q E hr h => ?_)
  · exact spW4_len h
  · refine ⟨_, (pss_cons (ps_setLc (i := 4) (own := [("beat", 5)]) (g := (gName 5)) (tt := tYes) (te := (tCall (spW1 K T sptW) [] E0 (tCons (tLc (iTup K (tVar 5)) (gTup K 3 (gCons (gName 7) (gCons (gName 8) (gCons (gName 9) gNil)))) tYes (fun σ H Q => tJs [(tFmt (tVar 7)), (tC (.str ">")), (tFmt (tVar 8)), (tC (.str ":")), (tFmt (tVar 9))] Str.empty σ H fun out H1 => Q (.str out) H1) [7, 8, 9]) tNil))) (by rfl) scShp.nd rfl (by rfl) (by rfl) (pi_tup (pv 2)) (blkOk_by (own := [("beat", 5)]) (N := ["hands", "m", "plan", "source", "beats", "beat", "words", "teller", "hearer", "letter"]) (sc := defScope sShp) (by decide +kernel)) (fun _ _ _ _ _ => (pg_name (i := 5) scShp.nd rfl (Or.inl rfl))) (fun _ _ _ _ _ => pts_nil) (fun _ _ _ _ _ => (pe_call c_spt.G (hr.mono (by decide)) (by rfl) c_spt.g c_spt.kp c_spt.b .nil pass0 (pa_cons (pe_lc (own := [("teller", 7), ("hearer", 8), ("letter", 9)]) (g := (gTup K 3 (gCons (gName 7) (gCons (gName 8) (gCons (gName 9) gNil))))) (tt := tYes) (te := (fun σ H Q => tJs [(tFmt (tVar 7)), (tC (.str ">")), (tFmt (tVar 8)), (tC (.str ":")), (tFmt (tVar 9))] Str.empty σ H fun out H1 => Q (.str out) H1)) (by rfl) scShp.nd (pi_tup (pv 5)) (blkOk_by (own := [("teller", 7), ("hearer", 8), ("letter", 9)]) (N := ["hands", "m", "plan", "source", "beats", "beat", "words", "teller", "hearer", "letter"]) (by kernel_rfl)) (fun _ _ _ _ _ => (pg_tup (by rfl) (pgs_cons (pg_name (i := 7) scShp.nd rfl (Or.inl rfl)) (pgs_cons (pg_name (i := 8) scShp.nd rfl (Or.inl rfl)) (pgs_cons (pg_name (i := 9) scShp.nd rfl (Or.inl rfl)) pgs_nil))))) (fun _ _ _ _ _ => pts_nil) (fun _ _ _ _ _ => (pe_joined (PJ.cons (pe_fmt (pv 7)) (PJ.cons pe_str (PJ.cons (pe_fmt (pv 8)) (PJ.cons pe_str (PJ.cons (pe_fmt (pv 9)) PJ.nil)))))))) pa_nil))))
      (pss_cons (ps_ret (pe_bm PySem.F.plainAttrs_str PySem.F.slot_str_join PySem.F.type_str_join mt_join pe_str (pa_cons (pe_op op_cat (pe_lst (pa_cons (pe_joined (PJ.cons pe_str (PJ.cons (pe_fmt (pv 0)) (PJ.cons pe_str (PJ.cons (pe_fmt (pv 1)) (PJ.cons pe_str (PJ.cons (pe_fmt (pv 3)) PJ.nil))))))) pa_nil)) (pe_lc (own := [("words", 6)]) (g := (gName 6)) (tt := tYes) (te := (fun σ H Q => tJs [(tC (.str "beat ")), (tFmt (tVar 6))] Str.empty σ H fun out H1 => Q (.str out) H1)) (by rfl) scShp.nd (pi_list (pv 4)) (blkOk_by (own := [("words", 6)]) (N := ["hands", "m", "plan", "source", "beats", "beat", "words", "teller", "hearer", "letter"]) (sc := defScope sShp) (by decide +kernel)) (fun _ _ _ _ _ => (pg_name (i := 6) scShp.nd rfl (Or.inl rfl))) (fun _ _ _ _ _ => pts_nil) (fun _ _ _ _ _ => (pe_joined (PJ.cons pe_str (PJ.cons (pe_fmt (pv 6)) PJ.nil)))))) pa_nil)))
      pss_nil)), w4_run (N := ["hands", "m", "plan", "source", "beats", "beat", "words", "teller", "hearer", "letter"]) psl_own psl_own psl_own psl_own (mB := shpB) (ρ := fun (hands : Nat) (m : Nat) (plan : (List (List (T3 Nat Nat Nat)))) (source : Nat) => [.own (enc (hands : Nat)), .own (enc (m : Nat)), .own (enc (plan : (List (List (T3 Nat Nat Nat))))), .own (enc (source : Nat)), .any, .any, .any, .any, .any, .any]) (ρn := fun _ => []) (ρb := fun _ => []) (C := fun _ => True) (fun _ _ _ _ => rfl) trivial (fun (hands : Nat) (m : Nat) (plan : (List (List (T3 Nat Nat Nat)))) (source : Nat) => 
  (rb_asg (ρ2 := fun (beats_3 : (Lst Str)) => [.own (enc (hands : Nat)), .own (enc (m : Nat)), .own (enc (plan : (List (List (T3 Nat Nat Nat))))), .own (enc (source : Nat)), .own (enc (beats_3 : (Lst Str))), .any, .any, .any, .any, .any]) (re_lc (vs := [5]) (ρw := [.own (enc (hands : Nat)), .own (enc (m : Nat)), .own (enc (plan : (List (List (T3 Nat Nat Nat))))), .own (enc (source : Nat)), .any, .any, .any, .any, .any, .any]) (ρx := fun (beat_1 : (List (T3 Nat Nat Nat))) => [.own (enc (hands : Nat)), .own (enc (m : Nat)), .own (enc (plan : (List (List (T3 Nat Nat Nat))))), .own (enc (source : Nat)), .any, .own (enc (beat_1 : (List (T3 Nat Nat Nat)))), .any, .any, .any, .any]) rfl (ri_tup (re_v (i := 2) (a := (plan : (List (List (T3 Nat Nat Nat))))) rfl)) (by decide) (fun (beat_1 : (List (T3 Nat Nat Nat))) => (rg_name (i := 5) (ρ' := [.own (enc (hands : Nat)), .own (enc (m : Nat)), .own (enc (plan : (List (List (T3 Nat Nat Nat))))), .own (enc (source : Nat)), .any, .own (enc (beat_1 : (List (T3 Nat Nat Nat)))), .any, .any, .any, .any]) (show 5 < 10 by decide) rfl)) (fun (beat_1 : (List (T3 Nat Nat Nat))) => rt_yes) (fun (beat_1 : (List (T3 Nat Nat Nat))) => (re_call1 (re_lc (vs := [7, 8, 9]) (ρw := [.own (enc (hands : Nat)), .own (enc (m : Nat)), .own (enc (plan : (List (List (T3 Nat Nat Nat))))), .own (enc (source : Nat)), .any, .own (enc (beat_1 : (List (T3 Nat Nat Nat)))), .any, .any, .any, .any]) (ρx := fun (x_2 : (T3 Nat Nat Nat)) => [.own (enc (hands : Nat)), .own (enc (m : Nat)), .own (enc (plan : (List (List (T3 Nat Nat Nat))))), .own (enc (source : Nat)), .any, .own (enc (beat_1 : (List (T3 Nat Nat Nat)))), .any, .own (enc (x_2.a : Nat)), .own (enc (x_2.b : Nat)), .own (enc (x_2.c : Nat))]) rfl (ri_tup (re_v (i := 5) (a := (beat_1 : (List (T3 Nat Nat Nat)))) rfl)) (by decide) (fun (x_2 : (T3 Nat Nat Nat)) => (rg_three (i := 7) (j := 8) (k := 9) (ρ1 := [.own (enc (hands : Nat)), .own (enc (m : Nat)), .own (enc (plan : (List (List (T3 Nat Nat Nat))))), .own (enc (source : Nat)), .any, .own (enc (beat_1 : (List (T3 Nat Nat Nat)))), .any, .own (enc (x_2.a : Nat)), .any, .any]) (ρ2 := [.own (enc (hands : Nat)), .own (enc (m : Nat)), .own (enc (plan : (List (List (T3 Nat Nat Nat))))), .own (enc (source : Nat)), .any, .own (enc (beat_1 : (List (T3 Nat Nat Nat)))), .any, .own (enc (x_2.a : Nat)), .own (enc (x_2.b : Nat)), .any]) (ρ' := [.own (enc (hands : Nat)), .own (enc (m : Nat)), .own (enc (plan : (List (List (T3 Nat Nat Nat))))), .own (enc (source : Nat)), .any, .own (enc (beat_1 : (List (T3 Nat Nat Nat)))), .any, .own (enc (x_2.a : Nat)), .own (enc (x_2.b : Nat)), .own (enc (x_2.c : Nat))]) (show 7 < 10 by decide) (show 8 < 10 by decide) (show 9 < 10 by decide) (by decide) (by decide) (by decide) rfl rfl rfl)) (fun (x_2 : (T3 Nat Nat Nat)) => rt_yes) (fun (x_2 : (T3 Nat Nat Nat)) => (re_joined (RJ.cons (re_fmtN (re_v (i := 7) (a := (x_2.a : Nat)) rfl)) (RJ.cons (re_str ">") (RJ.cons (re_fmtN (re_v (i := 8) (a := (x_2.b : Nat)) rfl)) (RJ.cons (re_str ":") (RJ.cons (re_fmtN (re_v (i := 9) (a := (x_2.c : Nat)) rfl)) RJ.nil))))))))))) (fun (beats_3 : (Lst Str)) => rg_name (i := 4) (show 4 < 10 by decide) rfl) (fun (beats_3 : (Lst Str)) =>
  (rb_freeze (i := 4) (ρ2 := [.own (enc (hands : Nat)), .own (enc (m : Nat)), .own (enc (plan : (List (List (T3 Nat Nat Nat))))), .own (enc (source : Nat)), .bor (enc (beats_3 : (Lst Str))), .any, .any, .any, .any, .any]) rfl rfl (rb_ret (re_sm1 ow_joinL (re_str "
") (re_op ow_catL (re_lst (ras_cons (re_joined (RJ.cons (re_str "plan ") (RJ.cons (re_fmtN (re_v (i := 0) (a := (hands : Nat)) rfl)) (RJ.cons (re_str " ") (RJ.cons (re_fmtN (re_v (i := 1) (a := (m : Nat)) rfl)) (RJ.cons (re_str " ") (RJ.cons (re_fmtN (re_v (i := 3) (a := (source : Nat)) rfl)) RJ.nil))))))) ras_nil)) (re_lc (vs := [6]) (ρw := [.own (enc (hands : Nat)), .own (enc (m : Nat)), .own (enc (plan : (List (List (T3 Nat Nat Nat))))), .own (enc (source : Nat)), .bor (enc (beats_3 : (Lst Str))), .any, .any, .any, .any, .any]) (ρx := fun (words_4 : Str) => [.own (enc (hands : Nat)), .own (enc (m : Nat)), .own (enc (plan : (List (List (T3 Nat Nat Nat))))), .own (enc (source : Nat)), .bor (enc (beats_3 : (Lst Str))), .any, .own (enc (words_4 : Str)), .any, .any, .any]) rfl (ri_bor (i := 4) (xs := (beats_3 : (Lst Str))) rfl) (by decide) (fun (words_4 : Str) => (rg_name (i := 6) (ρ' := [.own (enc (hands : Nat)), .own (enc (m : Nat)), .own (enc (plan : (List (List (T3 Nat Nat Nat))))), .own (enc (source : Nat)), .bor (enc (beats_3 : (Lst Str))), .any, .own (enc (words_4 : Str)), .any, .any, .any]) (show 6 < 10 by decide) rfl)) (fun (words_4 : Str) => rt_yes) (fun (words_4 : Str) => (re_joined (RJ.cons (re_str "beat ") (RJ.cons (re_fmtS (re_v (i := 6) (a := (words_4 : Str)) rfl)) RJ.nil)))))))))))) (by rw [shpW_fn] at h; exact h)⟩
/-! ### number_in -/
def ninB (word : Str) : M (Ctl (Option Nat) Unit Unit) :=
  (bindW (orW (mapW (fun b => !b) (bindW (retW (word : Str)) fun a : Str => retW (Txt.isascii a))) (orW (mapW (fun b => !b) (bindW (retW (word : Str)) fun a : Str => retW (Txt.isdigit a))) (b2W (bindW (retW (word : Str)) fun a : Str => reqW (a.length ≤ sizeLine) (retW a.length)) (retW (9 : Nat)) (fun a b : Nat => retW (decide (b < a)))))) fun B_ => seqW (if B_ = true then (bindW (retW (none : (Option Nat))) fun r => retW (.ret r)) else (retW (.nxt (() : Unit)))) fun (s_1 : Unit) =>
  (bindW (andW (b2W (retW (word : Str)) (retW ("0" : Str)) fun a b : Str => retW (Txt.startswith a b)) (b2W (retW (word : Str)) (retW ("0" : Str)) (fun a b : Str => retW (!decide (a = b))))) fun B_ => seqW (if B_ = true then (bindW (retW (none : (Option Nat))) fun r => retW (.ret r)) else (retW (.nxt (() : Unit)))) fun (s_2 : Unit) =>
  (bindW (mapW some (bindW (retW (word : Str)) fun (a : Str) n_ P_ => ∃ k_ : Nat, PySem.intText? a = some (k_ : Int) ∧ a.length ≤ 640 ∧ P_ k_ n_)) fun r => retW (.ret r))))
theorem ninW_ex : ∃ g : Str → M (Option Nat), ∀ word, g word = outW (ninB word) := ⟨fun word => outW (ninB word), fun _ => rfl⟩
/-- sealed -/
def ninW : Str → M (Option Nat) := Classical.choose ninW_ex
theorem ninW_eq (word : Str) : ninW word = outW (ninB word) := Classical.choose_spec ninW_ex word
theorem ninW_fn : ninW = fun word => outW (ninB word) := funext fun word => ninW_eq word
theorem scNin : FnScope ["word"] ["word"] (defScope sNin) := ⟨rfl, rfl, rfl, by decide +kernel, rfl, by decide +kernel, by decide +kernel⟩
theorem ok_nin (F : Fun K "number_in" "number_in" sNin f fd) (b : Bls2 mg) (k_MOST_FIGURES : ∃ t, mg "MOST_FIGURES" = some (.int 9 t)) : FnOk P w K mg base CX0 1 f fd ["word"] (spW1 K T ninW) := by
  refine F.ok scNin (fun vs H Q E h => ?_) (fun cdv A outer s H vs Q E hr h => ?_)
  · exact spW1_len h
  · refine ⟨_, (pss_cons (ps_if (PW.pt (pw_or (pt_not (pt_val (pe_bm0 PySem.F.plainAttrs_str PySem.F.slot_str_isascii PySem.F.type_str_isascii mt_isascii (pv 0)))) (pw_or (pt_not (pt_val (pe_bm0 PySem.F.plainAttrs_str PySem.F.slot_str_isdigit PySem.F.type_str_isdigit mt_isdigit (pv 0)))) (pw_or1 (pt_cmpR op_gt (pe_callB call_len_str (by rfl) b.len PySem.boot_len (pa_cons (pv 0) pa_nil)) (pe_glob (v := .int 9) (by rfl) k_MOST_FIGURES.choose_spec ⟨_, rfl⟩) (nomark _)))))) (pss_cons (ps_ret pe_non)
      pss_nil) pss_nil)
      (pss_cons (ps_if (PW.pt (pw_and (pt_val (pe_bm PySem.F.plainAttrs_str PySem.F.slot_str_startswith PySem.F.type_str_startswith mt_startswith (pv 0) (pa_cons pe_str pa_nil))) (pw_and1 (pt_cmpR op_ne (pv 0) pe_str (nomark _))))) (pss_cons (ps_ret pe_non)
      pss_nil) pss_nil)
      (pss_cons (ps_ret (pe_callTy call_int_str (by rfl) b.int (by decide +kernel) (pa_cons (pv 0) pa_nil)))
      pss_nil))), w1_run (N := ["word"]) psl_own (mB := ninB) (ρ := fun (word : Str) => [.own (enc (word : Str))]) (ρn := fun _ => []) (ρb := fun _ => []) (C := fun _ => True) (fun _ => rfl) trivial (fun (word : Str) => 
  (rb_if (ρ1 := fun (s_1 : Unit) => [.own (enc (word : Str))]) (rt_or (rt_not (rt_val (re_sm0 uw_isascii (re_v (i := 0) (a := (word : Str)) rfl)))) (rt_or (rt_not (rt_val (re_sm0 uw_isdigit (re_v (i := 0) (a := (word : Str)) rfl)))) (rt_test (re_op ow_gtN (re_cb uw_lenS (re_v (i := 0) (a := (word : Str)) rfl)) (re_nat 9)))))
  (rb_ret (re_none (α := Nat)))
  (rb_end (s := (() : Unit)) ⟨.eq _, trivial⟩) (fun (s_1 : Unit) =>
  (rb_if (ρ1 := fun (s_2 : Unit) => [.own (enc (word : Str))]) (rt_and (rt_val (re_sm1 ow_starts (re_v (i := 0) (a := (word : Str)) rfl) (re_str "0"))) (rt_test (re_op ow_neS (re_v (i := 0) (a := (word : Str)) rfl) (re_str "0"))))
  (rb_ret (re_none (α := Nat)))
  (rb_end (s := (() : Unit)) ⟨.eq _, trivial⟩) (fun (s_2 : Unit) =>
  (rb_ret (re_some (re_cb uw_intS (re_v (i := 0) (a := (word : Str)) rfl))))))))) (by rw [ninW_fn] at h; exact h)⟩
/-! ### numbers_in -/
def nisB (words : (Lst Str)) : M (Ctl (Option (List Nat)) Unit Unit) :=
  (bindW (bindW (bindW (retW (words : (Lst Str)).l) fun X_ => reqW (X_.length ≤ sizeLine) (lcW (fun (word_1 : Str) => (retW true)) (fun (word_1 : Str) => (c1W (retW (word_1 : Str)) fun A_1 => pureW (ninW A_1))) X_ [])) fun xs : (Lst (Option Nat)) => retW xs.l) fun (numbers_2 : (List (Option Nat))) =>
  (bindW (bindW (b2W (retW (none : (Option Nat))) (retW (numbers_2 : (List (Option Nat)))) (fun (x : Option Nat) (xs : (List (Option Nat))) => retW (decide (x ∈ xs)))) fun X_ => if X_ = true then (retW (none : (Option (List Nat)))) else (mapW some (fun n_ P_ => (retW (numbers_2 : (List (Option Nat)))) n_ fun xs_ n1_ => ∃ ns_ : (List Nat), xs_ = ns_.map some ∧ P_ ns_ n1_))) fun r => retW (.ret r)))
theorem nisW_ex : ∃ g : (Lst Str) → M (Option (List Nat)), ∀ words, g words = outW (nisB words) := ⟨fun words => outW (nisB words), fun _ => rfl⟩
/-- sealed -/
def nisW : (Lst Str) → M (Option (List Nat)) := Classical.choose nisW_ex
theorem nisW_eq (words : (Lst Str)) : nisW words = outW (nisB words) := Classical.choose_spec nisW_ex words
theorem nisW_fn : nisW = fun words => outW (nisB words) := funext fun words => nisW_eq words
theorem scNis : FnScope ["words", "numbers", "word"] ["words"] (defScope sNis) := ⟨rfl, rfl, rfl, by decide +kernel, rfl, by decide +kernel, by decide +kernel⟩
theorem ok_nis {f_nin : Addr} {d_nin : FuncData} (F : Fun K "numbers_in" "numbers_in" sNis f fd) (b : Bls2 mg) (c_nin : CalF P w K mg base 1 "number_in" f_nin d_nin ["word"] (spW1 K T ninW)) : FnOk P w K mg base CX0 2 f fd ["words"] (spW1 K T nisW) := by
  refine F.ok scNis (fun vs H Q E h => ?_) (fun cdv A outer s H vs Q E hr h => ?_)
  · exact spW1_len h
  · refine ⟨_, (pss_cons (ps_set (i := 1) scNis.nd rfl (.inl rfl) (pe_callTy call_tuple_of (by rfl) b.tuple (by decide +kernel) (pa_cons (pe_lc (own := [("word", 2)]) (g := (gName 2)) (tt := tYes) (te := (tCall (spW1 K T ninW) [] E0 (tCons (tVar 2) tNil))) (by rfl) scNis.nd (pi_list (pv 0)) (blkOk_by (own := [("word", 2)]) (N := ["words", "numbers", "word"]) (sc := defScope sNis) (by decide +kernel)) (fun _ _ _ _ _ => (pg_name (i := 2) scNis.nd rfl (Or.inl rfl))) (fun _ _ _ _ _ => pts_nil) (fun _ _ _ _ _ => (pe_call c_nin.G (hr.mono (by decide)) (by rfl) c_nin.g c_nin.kp c_nin.b .nil pass0 (pa_cons (pv 2) pa_nil)))) pa_nil)))
      (pss_cons (ps_ret (pe_ifExp (pt_cmpR op_in_seq pe_non (pv 1) (by rfl)) pe_non (pv 1)))
      pss_nil)), w1_run (N := ["words", "numbers", "word"]) psl_bor (mB := nisB) (ρ := fun (words : (Lst Str)) => [.bor (enc (words : (Lst Str))), .any, .any]) (ρn := fun _ => []) (ρb := fun _ => []) (C := fun _ => True) (fun _ => rfl) trivial (fun (words : (Lst Str)) => 
  (rb_asg (ρ2 := fun (numbers_2 : (List (Option Nat))) => [.bor (enc (words : (Lst Str))), .own (enc (numbers_2 : (List (Option Nat)))), .any]) (re_cb uw_tupL (re_lc (vs := [2]) (ρw := [.bor (enc (words : (Lst Str))), .any, .any]) (ρx := fun (word_1 : Str) => [.bor (enc (words : (Lst Str))), .any, .own (enc (word_1 : Str))]) rfl (ri_bor (i := 0) (xs := (words : (Lst Str))) rfl) (by decide) (fun (word_1 : Str) => (rg_name (i := 2) (ρ' := [.bor (enc (words : (Lst Str))), .any, .own (enc (word_1 : Str))]) (show 2 < 3 by decide) rfl)) (fun (word_1 : Str) => rt_yes) (fun (word_1 : Str) => (re_call1 (re_v (i := 2) (a := (word_1 : Str)) rfl))))) (fun (numbers_2 : (List (Option Nat))) => rg_name (i := 1) (show 1 < 3 by decide) rfl) (fun (numbers_2 : (List (Option Nat))) =>
  (rb_ret (re_if (rt_test (re_op ow_inTO (re_none (α := Nat)) (re_v (i := 1) (a := (numbers_2 : (List (Option Nat)))) rfl))) (re_none (α := (List Nat))) (re_some (re_unS (re_v (i := 1) (a := (numbers_2 : (List (Option Nat)))) rfl)))))))) (by rw [nisW_fn] at h; exact h)⟩
/-! ### numbers_in -/
def nitB (words : (List Str)) : M (Ctl (Option (List Nat)) Unit Unit) :=
  (bindW (bindW (bindW (retW (words : (List Str))) fun X_ => reqW (X_.length ≤ sizeLine) (lcW (fun (word_1 : Str) => (retW true)) (fun (word_1 : Str) => (c1W (retW (word_1 : Str)) fun A_1 => pureW (ninW A_1))) X_ [])) fun xs : (Lst (Option Nat)) => retW xs.l) fun (numbers_2 : (List (Option Nat))) =>
  (bindW (bindW (b2W (retW (none : (Option Nat))) (retW (numbers_2 : (List (Option Nat)))) (fun (x : Option Nat) (xs : (List (Option Nat))) => retW (decide (x ∈ xs)))) fun X_ => if X_ = true then (retW (none : (Option (List Nat)))) else (mapW some (fun n_ P_ => (retW (numbers_2 : (List (Option Nat)))) n_ fun xs_ n1_ => ∃ ns_ : (List Nat), xs_ = ns_.map some ∧ P_ ns_ n1_))) fun r => retW (.ret r)))
theorem nitW_ex : ∃ g : (List Str) → M (Option (List Nat)), ∀ words, g words = outW (nitB words) := ⟨fun words => outW (nitB words), fun _ => rfl⟩
/-- sealed -/
def nitW : (List Str) → M (Option (List Nat)) := Classical.choose nitW_ex
theorem nitW_eq (words : (List Str)) : nitW words = outW (nitB words) := Classical.choose_spec nitW_ex words
theorem nitW_fn : nitW = fun words => outW (nitB words) := funext fun words => nitW_eq words
theorem scNit : FnScope ["words", "numbers", "word"] ["words"] (defScope sNit) := ⟨rfl, rfl, rfl, by decide +kernel, rfl, by decide +kernel, by decide +kernel⟩
theorem ok_nit {f_nin : Addr} {d_nin : FuncData} (F : Fun K "numbers_in" "numbers_in" sNit f fd) (b : Bls2 mg) (c_nin : CalF P w K mg base 1 "number_in" f_nin d_nin ["word"] (spW1 K T ninW)) : FnOk P w K mg base CX0 2 f fd ["words"] (spW1 K T nitW) := by
  refine F.ok scNit (fun vs H Q E h => ?_) (fun cdv A outer s H vs Q E hr h => ?_)
  · exact spW1_len h
  · refine ⟨_, (pss_cons (ps_set (i := 1) scNit.nd rfl (.inl rfl) (pe_callTy call_tuple_of (by rfl) b.tuple (by decide +kernel) (pa_cons (pe_lc (own := [("word", 2)]) (g := (gName 2)) (tt := tYes) (te := (tCall (spW1 K T ninW) [] E0 (tCons (tVar 2) tNil))) (by rfl) scNit.nd (pi_tup (pv 0)) (blkOk_by (own := [("word", 2)]) (N := ["words", "numbers", "word"]) (sc := defScope sNit) (by decide +kernel)) (fun _ _ _ _ _ => (pg_name (i := 2) scNit.nd rfl (Or.inl rfl))) (fun _ _ _ _ _ => pts_nil) (fun _ _ _ _ _ => (pe_call c_nin.G (hr.mono (by decide)) (by rfl) c_nin.g c_nin.kp c_nin.b .nil pass0 (pa_cons (pv 2) pa_nil)))) pa_nil)))
      (pss_cons (ps_ret (pe_ifExp (pt_cmpR op_in_seq pe_non (pv 1) (by rfl)) pe_non (pv 1)))
      pss_nil)), w1_run (N := ["words", "numbers", "word"]) psl_own (mB := nitB) (ρ := fun (words : (List Str)) => [.own (enc (words : (List Str))), .any, .any]) (ρn := fun _ => []) (ρb := fun _ => []) (C := fun _ => True) (fun _ => rfl) trivial (fun (words : (List Str)) => 
  (rb_asg (ρ2 := fun (numbers_2 : (List (Option Nat))) => [.own (enc (words : (List Str))), .own (enc (numbers_2 : (List (Option Nat)))), .any]) (re_cb uw_tupL (re_lc (vs := [2]) (ρw := [.own (enc (words : (List Str))), .any, .any]) (ρx := fun (word_1 : Str) => [.own (enc (words : (List Str))), .any, .own (enc (word_1 : Str))]) rfl (ri_tup (re_v (i := 0) (a := (words : (List Str))) rfl)) (by decide) (fun (word_1 : Str) => (rg_name (i := 2) (ρ' := [.own (enc (words : (List Str))), .any, .own (enc (word_1 : Str))]) (show 2 < 3 by decide) rfl)) (fun (word_1 : Str) => rt_yes) (fun (word_1 : Str) => (re_call1 (re_v (i := 2) (a := (word_1 : Str)) rfl))))) (fun (numbers_2 : (List (Option Nat))) => rg_name (i := 1) (show 1 < 3 by decide) rfl) (fun (numbers_2 : (List (Option Nat))) =>
  (rb_ret (re_if (rt_test (re_op ow_inTO (re_none (α := Nat)) (re_v (i := 1) (a := (numbers_2 : (List (Option Nat)))) rfl))) (re_none (α := (List Nat))) (re_some (re_unS (re_v (i := 1) (a := (numbers_2 : (List (Option Nat)))) rfl)))))))) (by rw [nitW_fn] at h; exact h)⟩
/-! ### rows_of -/
def rofB (text : Str) : M (Ctl (Lst Str) Unit Unit) :=
  (bindW (mapW (fun b => !b) (mapW (fun _ : Str => true) (retW (text : Str)))) fun B_ => seqW (if B_ = true then (fun _ _ => False) else (retW (.nxt (() : Unit)))) fun (s_1 : Unit) =>
  (bindW (b2W (retW (text : Str)) (retW ("
" : Str)) fun a b : Str => reqW ((b.length == 0) = false ∧ a.length + 2 ≤ sizeLine) (retW (⟨Txt.split a b⟩ : Lst Str))) fun r => retW (.ret r)))
theorem rofW_ex : ∃ g : Str → M (Lst Str), ∀ text, g text = outW (rofB text) := ⟨fun text => outW (rofB text), fun _ => rfl⟩
/-- sealed -/
def rofW : Str → M (Lst Str) := Classical.choose rofW_ex
theorem rofW_eq (text : Str) : rofW text = outW (rofB text) := Classical.choose_spec rofW_ex text
theorem rofW_fn : rofW = fun text => outW (rofB text) := funext fun text => rofW_eq text
theorem scRof : FnScope ["text"] ["text"] (defScope sRof) := ⟨rfl, rfl, rfl, by decide +kernel, rfl, by decide +kernel, by decide +kernel⟩
theorem ok_rof (F : Fun K "rows_of" "rows_of" sRof f fd) (b : Bls2 mg) (k_b_str : mg "str" = none) : FnOk P w K mg base CX0 1 f fd ["text"] (spW1 K T rofW) := by
  refine F.ok scRof (fun vs H Q E h => ?_) (fun cdv A outer s H vs Q E hr h => ?_)
  · exact spW1_len h
  · refine ⟨_, (pss_cons (ps_if (pt_not (pt_val (pe_callB call_isi (by rfl) b.isinstance (by decide +kernel) (pa_cons (pv 0) (pa_cons (pe_bltn (v := .ty "str") (u := .type "str") (by rfl) k_b_str (by decide +kernel) rfl) pa_nil))))) (pss_cons ps_dead
      pss_nil) pss_nil)
      (pss_cons (ps_ret (pe_bm PySem.F.plainAttrs_str PySem.F.slot_str_split PySem.F.type_str_split mt_split (pv 0) (pa_cons pe_str pa_nil)))
      pss_nil)), w1_run (N := ["text"]) psl_own (mB := rofB) (ρ := fun (text : Str) => [.own (enc (text : Str))]) (ρn := fun _ => []) (ρb := fun _ => []) (C := fun _ => True) (fun _ => rfl) trivial (fun (text : Str) => 
  (rb_if (ρ1 := fun (s_1 : Unit) => [.own (enc (text : Str))]) (rt_not (rt_val (re_isi isi_SS (re_v (i := 0) (a := (text : Str)) rfl))))
  rb_dead
  (rb_end (s := (() : Unit)) ⟨.eq _, trivial⟩) (fun (s_1 : Unit) =>
  (rb_ret (re_sm1 ow_split (re_v (i := 0) (a := (text : Str)) rfl) (re_str "
")))))) (by rw [rofW_fn] at h; exact h)⟩
/-! ### words_at -/
def watB (rows : (Lst Str)) (at_ : Nat) (first : Str) : M (Ctl (Option (Lst Str)) Unit Unit) :=
  (bindW (b2W (retW (at_ : Nat)) (bindW (retW (rows : (Lst Str))) fun xs : (Lst Str) => retW xs.l.length) (fun a b : Nat => retW (decide (b ≤ a)))) fun B_ => seqW (if B_ = true then (bindW (retW (none : (Option (Lst Str)))) fun r => retW (.ret r)) else (retW (.nxt (() : Unit)))) fun (s_1 : Unit) =>
  (fun n_ P_ => (b2W (b2W (retW (rows : (Lst Str))) (retW (at_ : Nat)) fun (xs : (Lst Str)) (i : Nat) n P => ∃ a, xs.l[i]? = some a ∧ P a n) (retW (" " : Str)) fun a b : Str => reqW ((b.length == 0) = false ∧ a.length + 2 ≤ sizeLine) (retW (⟨Txt.split a b⟩ : Lst Str))) n_ fun xs_ n1_ => ∃ a_ r_, xs_.l = a_ :: r_ ∧ (fun (word_2 : Str) (words_3 : List Str) =>
  (bindW (b2W (retW (word_2 : Str)) (retW (first : Str)) (fun a b : Str => retW (decide (a = b)))) fun X_ => retW (.ret (if X_ = true then some ((⟨words_3⟩ : (Lst Str)) : (Lst Str)) else none)))) a_ r_ n1_ P_))
theorem watW_ex : ∃ g : (Lst Str) → Nat → Str → M (Option (Lst Str)), ∀ rows at_ first, g rows at_ first = outW (watB rows at_ first) := ⟨fun rows at_ first => outW (watB rows at_ first), fun _ _ _ => rfl⟩
/-- sealed -/
def watW : (Lst Str) → Nat → Str → M (Option (Lst Str)) := Classical.choose watW_ex
theorem watW_eq (rows : (Lst Str)) (at_ : Nat) (first : Str) : watW rows at_ first = outW (watB rows at_ first) := Classical.choose_spec watW_ex rows at_ first
theorem watW_fn : watW = fun rows at_ first => outW (watB rows at_ first) := funext fun rows => funext fun at_ => funext fun first => watW_eq rows at_ first
theorem scWat : FnScope ["rows", "at", "first", "word", "words"] ["rows", "at", "first"] (defScope sWat) := ⟨rfl, rfl, rfl, by decide +kernel, rfl, by decide +kernel, by decide +kernel⟩
theorem ok_wat (F : Fun K "words_at" "words_at" sWat f fd) (b : Bls2 mg) : FnOk P w K mg base CX0 1 f fd ["rows", "at", "first"] (spW3 K T watW) := by
  refine F.ok scWat (fun vs H Q E h => ?_) (fun cdv A outer s H vs Q E hr h => ?_)
  · exact spW3_len h
  · refine ⟨_, (pss_cons (ps_if (pt_cmpR op_ge (pv 1) (pe_callB call_len_seq (by rfl) b.len PySem.boot_len (pa_cons (pv 0) pa_nil)) (nomark _)) (pss_cons (ps_ret pe_non)
      pss_nil) pss_nil)
      (pss_cons (ps_asg (pe_bm PySem.F.plainAttrs_str PySem.F.slot_str_split PySem.F.type_str_split mt_split (pe_ix ix_list (pv 0) (pv 1) (fun _ _ => rfl)) (pa_cons pe_str pa_nil)) (pg_star rfl (pgs_cons (pg_name (i := 3) scWat.nd rfl (.inl rfl)) (pgs_cons (pg_name (i := 4) scWat.nd rfl (.inl rfl)) pgs_nil))))
      (pss_cons (ps_ret (pe_ifExp (pt_cmpR op_eq (pv 3) (pv 2) (nomark _)) (pv 4) pe_non))
      pss_nil))), w3_run (N := ["rows", "at", "first", "word", "words"]) psl_bor psl_own psl_own (mB := watB) (ρ := fun (rows : (Lst Str)) (at_ : Nat) (first : Str) => [.bor (enc (rows : (Lst Str))), .own (enc (at_ : Nat)), .own (enc (first : Str)), .any, .any]) (ρn := fun _ => []) (ρb := fun _ => []) (C := fun _ => True) (fun _ _ _ => rfl) trivial (fun (rows : (Lst Str)) (at_ : Nat) (first : Str) => 
  (rb_if (ρ1 := fun (s_1 : Unit) => [.bor (enc (rows : (Lst Str))), .own (enc (at_ : Nat)), .own (enc (first : Str)), .any, .any]) (rt_test (re_op ow_geN (re_v (i := 1) (a := (at_ : Nat)) rfl) (re_cb uw_lenL (re_bor (i := 0) (a := (rows : (Lst Str))) rfl))))
  (rb_ret (re_none (α := (Lst Str))))
  (rb_end (s := (() : Unit)) ⟨.eq _, ⟨.eq _, ⟨.eq _, ⟨.any _, ⟨.any _, trivial⟩⟩⟩⟩⟩) (fun (s_1 : Unit) =>
  (rb_star (i := 3) (j := 4) (ρ2 := fun (word_2 : Str) (words_3 : List Str) => [.bor (enc (rows : (Lst Str))), .own (enc (at_ : Nat)), .own (enc (first : Str)), .own (enc (word_2 : Str)), .own (enc ((⟨words_3⟩ : (Lst Str)) : (Lst Str)))]) (re_sm1 ow_split (re_op ow_ixLN (re_bor (i := 0) (a := (rows : (Lst Str))) rfl) (re_v (i := 1) (a := (at_ : Nat)) rfl)) (re_str " ")) (show 3 < 5 by decide) (show 4 < 5 by decide) (fun _ _ => rfl) (fun (word_2 : Str) (words_3 : List Str) =>
  (rb_retvIf (i := 4) (a := ((⟨words_3⟩ : (Lst Str)) : (Lst Str))) (rt_test (re_op ow_eqS (re_v (i := 3) (a := (word_2 : Str)) rfl) (re_v (i := 2) (a := (first : Str)) rfl))) rfl)))))) (by rw [watW_fn] at h; exact h)⟩
/-! ### numbers_at -/
def natB (rows : (Lst Str)) (at_ : Nat) (first : Str) (many : Nat) : M (Ctl (Option (List Nat)) Unit Unit) :=
  (bindW (c3W (retW (rows : (Lst Str))) (retW (at_ : Nat)) (retW (first : Str)) fun A_1 A_2 A_3 => pureW (watW A_1 A_2 A_3)) fun (words_1 : (Option (Lst Str))) =>
  (bindW (orW (bindW (retW (words_1 : (Option (Lst Str)))) fun x : (Option (Lst Str)) => retW x.isNone) (b2W (bindW (getW (retW (words_1 : (Option (Lst Str))))) fun xs : (Lst Str) => retW xs.l.length) (retW (many : Nat)) (fun a b : Nat => retW (!decide (a = b))))) fun B_ => seqW (if B_ = true then (bindW (retW (none : (Option (List Nat)))) fun r => retW (.ret r)) else (retW (.nxt (() : Unit)))) fun (s_2 : Unit) =>
  (bindW (c1W (getW (retW (words_1 : (Option (Lst Str))))) fun A_1 => pureW (nisW A_1)) fun r => retW (.ret r))))
theorem natW_ex : ∃ g : (Lst Str) → Nat → Str → Nat → M (Option (List Nat)), ∀ rows at_ first many, g rows at_ first many = outW (natB rows at_ first many) := ⟨fun rows at_ first many => outW (natB rows at_ first many), fun _ _ _ _ => rfl⟩
/-- sealed -/
def natW : (Lst Str) → Nat → Str → Nat → M (Option (List Nat)) := Classical.choose natW_ex
theorem natW_eq (rows : (Lst Str)) (at_ : Nat) (first : Str) (many : Nat) : natW rows at_ first many = outW (natB rows at_ first many) := Classical.choose_spec natW_ex rows at_ first many
theorem natW_fn : natW = fun rows at_ first many => outW (natB rows at_ first many) := funext fun rows => funext fun at_ => funext fun first => funext fun many => natW_eq rows at_ first many
theorem scNat : FnScope ["rows", "at", "first", "many", "words"] ["rows", "at", "first", "many"] (defScope sNat) := ⟨rfl, rfl, rfl, by decide +kernel, rfl, by decide +kernel, by decide +kernel⟩
theorem ok_nat {f_nis f_wat : Addr} {d_nis d_wat : FuncData} (F : Fun K "numbers_at" "numbers_at" sNat f fd) (b : Bls2 mg) (c_nis : CalF P w K mg base 2 "numbers_in" f_nis d_nis ["words"] (spW1 K T nisW)) (c_wat : CalF P w K mg base 1 "words_at" f_wat d_wat ["rows", "at", "first"] (spW3 K T watW)) : FnOk P w K mg base CX0 3 f fd ["rows", "at", "first", "many"] (spW4 K T natW) := by
  refine F.ok scNat (fun vs H Q E h => ?_) (fun cdv A outer s H vs Q E hr h => ?_)
  · exact spW4_len h
  · refine ⟨_, (pss_cons (ps_set (i := 4) scNat.nd rfl (.inl rfl) (pe_call c_wat.G (hr.mono (by decide)) (by rfl) c_wat.g c_wat.kp c_wat.b .nil pass0 (pa_cons (pv 0) (pa_cons (pv 1) (pa_cons (pv 2) pa_nil)))))
      (pss_cons (ps_if (PW.pt (pw_or (pt_cmp (pc_isN (pv 4))) (pw_or1 (pt_cmpR op_ne (pe_callB call_len_seq (by rfl) b.len PySem.boot_len (pa_cons (pv 4) pa_nil)) (pv 3) (nomark _))))) (pss_cons (ps_ret pe_non)
      pss_nil) pss_nil)
      (pss_cons (ps_ret (pe_call c_nis.G (hr.mono (by decide)) (by rfl) c_nis.g c_nis.kp c_nis.b .nil pass0 (pa_cons (pv 4) pa_nil)))
      pss_nil))), w4_run (N := ["rows", "at", "first", "many", "words"]) psl_bor psl_own psl_own psl_own (mB := natB) (ρ := fun (rows : (Lst Str)) (at_ : Nat) (first : Str) (many : Nat) => [.bor (enc (rows : (Lst Str))), .own (enc (at_ : Nat)), .own (enc (first : Str)), .own (enc (many : Nat)), .any]) (ρn := fun _ => []) (ρb := fun _ => []) (C := fun _ => True) (fun _ _ _ _ => rfl) trivial (fun (rows : (Lst Str)) (at_ : Nat) (first : Str) (many : Nat) => 
  (rb_asg (ρ2 := fun (words_1 : (Option (Lst Str))) => [.bor (enc (rows : (Lst Str))), .own (enc (at_ : Nat)), .own (enc (first : Str)), .own (enc (many : Nat)), .own (enc (words_1 : (Option (Lst Str))))]) (re_call3 (re_bor (i := 0) (a := (rows : (Lst Str))) rfl) (re_v (i := 1) (a := (at_ : Nat)) rfl) (re_v (i := 2) (a := (first : Str)) rfl)) (fun (words_1 : (Option (Lst Str))) => rg_name (i := 4) (show 4 < 5 by decide) rfl) (fun (words_1 : (Option (Lst Str))) =>
  (rb_freeze (i := 4) (ρ2 := [.bor (enc (rows : (Lst Str))), .own (enc (at_ : Nat)), .own (enc (first : Str)), .own (enc (many : Nat)), .bor (enc (words_1 : (Option (Lst Str))))]) rfl rfl (rb_if (ρ1 := fun (s_2 : Unit) => [.bor (enc (rows : (Lst Str))), .own (enc (at_ : Nat)), .own (enc (first : Str)), .own (enc (many : Nat)), .bor (enc (words_1 : (Option (Lst Str))))]) (rt_or (rt_val (re_un (ta := (tVar 4)) (t := tIsN (tVar 4)) (fun _ _ _ h => h) uw_isNM (re_bor (i := 4) (a := (words_1 : (Option (Lst Str)))) rfl))) (rt_test (re_op ow_neN (re_cb uw_lenL (re_getW (re_bor (i := 4) (a := (words_1 : (Option (Lst Str)))) rfl))) (re_v (i := 3) (a := (many : Nat)) rfl))))
  (rb_ret (re_none (α := (List Nat))))
  (rb_end (s := (() : Unit)) ⟨.eq _, ⟨.eq _, ⟨.eq _, ⟨.eq _, ⟨.eq _, trivial⟩⟩⟩⟩⟩) (fun (s_2 : Unit) =>
  (rb_ret (re_call1 (re_getW (re_bor (i := 4) (a := (words_1 : (Option (Lst Str)))) rfl)))))))))) (by rw [natW_fn] at h; exact h)⟩
end
end Bf
namespace Bf
open PySem PySem.Spec PyProof.Rows L2 LamX NdefX
noncomputable section
variable {P : Program} {w : World} {K : PySem.W.Frag} {mg : Str → Option Value} {base : Heap} {f : Addr} {fd : FuncData} {k : Nat} {T : List (Addr × Str)}
/-! ### telling_in -/
def tinB (word : Str) : M (Ctl (Option (List Nat)) Unit Unit) :=
  (bindW (b2W (retW (word : Str)) (retW (">" : Str)) fun a b : Str => reqW ((b.length == 0) = false ∧ a.length ≤ sizeLine) (retW (⟨(Txt.partition a b).1, (Txt.partition a b).2.1, (Txt.partition a b).2.2⟩ : T3 Str Str Str))) fun (p_1 : (T3 Str Str Str)) =>
  (bindW (b2W (retW (p_1.c : Str)) (retW (":" : Str)) fun a b : Str => reqW ((b.length == 0) = false ∧ a.length ≤ sizeLine) (retW (⟨(Txt.partition a b).1, (Txt.partition a b).2.1, (Txt.partition a b).2.2⟩ : T3 Str Str Str))) fun (p_2 : (T3 Str Str Str)) =>
  (bindW (c1W (bindW (b2W (retW (p_1.a : Str)) (b2W (retW (p_2.a : Str)) (b2W (retW (p_2.c : Str)) (retW ([] : List Str)) fun a as => retW (a :: as)) fun a as => retW (a :: as)) fun a as => retW (a :: as)) fun xs => reqW (xs.length ≤ sizeLine) (retW xs)) fun A_1 => pureW (nitW A_1)) fun r => retW (.ret r))))
theorem tinW_ex : ∃ g : Str → M (Option (List Nat)), ∀ word, g word = outW (tinB word) := ⟨fun word => outW (tinB word), fun _ => rfl⟩
/-- sealed -/
def tinW : Str → M (Option (List Nat)) := Classical.choose tinW_ex
theorem tinW_eq (word : Str) : tinW word = outW (tinB word) := Classical.choose_spec tinW_ex word
theorem tinW_fn : tinW = fun word => outW (tinB word) := funext fun word => tinW_eq word
theorem scTin : FnScope ["word", "teller", "arrow", "behind", "hearer", "colon", "letter"] ["word"] (defScope sTin) := ⟨rfl, rfl, rfl, by decide +kernel, rfl, by decide +kernel, by decide +kernel⟩
theorem ok_tin {f_nit : Addr} {d_nit : FuncData} (F : Fun K "telling_in" "telling_in" sTin f fd) (b : Bls2 mg) (c_nit : CalF P w K mg base 2 "numbers_in" f_nit d_nit ["words"] (spW1 K T nitW)) : FnOk P w K mg base CX0 3 f fd ["word"] (spW1 K T tinW) := by
  refine F.ok scTin (fun vs H Q E h => ?_) (fun cdv A outer s H vs Q E hr h => ?_)
  · exact spW1_len h
  · refine ⟨_, (pss_cons (ps_asg (pe_bm PySem.F.plainAttrs_str PySem.F.slot_str_partition PySem.F.type_str_partition mt_partition (pv 0) (pa_cons pe_str pa_nil)) (pg_tup (by rfl) (pgs_cons (pg_name (i := 1) scTin.nd rfl (Or.inl rfl)) (pgs_cons (pg_name (i := 2) scTin.nd rfl (Or.inl rfl)) (pgs_cons (pg_name (i := 3) scTin.nd rfl (Or.inl rfl)) pgs_nil)))))
      (pss_cons (ps_asg (pe_bm PySem.F.plainAttrs_str PySem.F.slot_str_partition PySem.F.type_str_partition mt_partition (pv 3) (pa_cons pe_str pa_nil)) (pg_tup (by rfl) (pgs_cons (pg_name (i := 4) scTin.nd rfl (Or.inl rfl)) (pgs_cons (pg_name (i := 5) scTin.nd rfl (Or.inl rfl)) (pgs_cons (pg_name (i := 6) scTin.nd rfl (Or.inl rfl)) pgs_nil)))))
      (pss_cons (ps_ret (pe_call c_nit.G (hr.mono (by decide)) (by rfl) c_nit.g c_nit.kp c_nit.b .nil pass0 (pa_cons (pe_tup (pa_cons (pv 1) (pa_cons (pv 4) (pa_cons (pv 6) pa_nil)))) pa_nil)))
      pss_nil))), w1_run (N := ["word", "teller", "arrow", "behind", "hearer", "colon", "letter"]) psl_own (mB := tinB) (ρ := fun (word : Str) => [.own (enc (word : Str)), .any, .any, .any, .any, .any, .any]) (ρn := fun _ => []) (ρb := fun _ => []) (C := fun _ => True) (fun _ => rfl) trivial (fun (word : Str) => 
  (rb_asg (ρ2 := fun (p_1 : (T3 Str Str Str)) => [.own (enc (word : Str)), .own (enc (p_1.a : Str)), .own (enc (p_1.b : Str)), .own (enc (p_1.c : Str)), .any, .any, .any]) (re_sm1 ow_partition (re_v (i := 0) (a := (word : Str)) rfl) (re_str ">")) (fun (p_1 : (T3 Str Str Str)) => (rg_three (i := 1) (j := 2) (k := 3) (ρ1 := [.own (enc (word : Str)), .own (enc (p_1.a : Str)), .any, .any, .any, .any, .any]) (ρ2 := [.own (enc (word : Str)), .own (enc (p_1.a : Str)), .own (enc (p_1.b : Str)), .any, .any, .any, .any]) (ρ' := [.own (enc (word : Str)), .own (enc (p_1.a : Str)), .own (enc (p_1.b : Str)), .own (enc (p_1.c : Str)), .any, .any, .any]) (show 1 < 7 by decide) (show 2 < 7 by decide) (show 3 < 7 by decide) (by decide) (by decide) (by decide) rfl rfl rfl)) (fun (p_1 : (T3 Str Str Str)) =>
  (rb_asg (ρ2 := fun (p_2 : (T3 Str Str Str)) => [.own (enc (word : Str)), .own (enc (p_1.a : Str)), .own (enc (p_1.b : Str)), .own (enc (p_1.c : Str)), .own (enc (p_2.a : Str)), .own (enc (p_2.b : Str)), .own (enc (p_2.c : Str))]) (re_sm1 ow_partition (re_v (i := 3) (a := (p_1.c : Str)) rfl) (re_str ":")) (fun (p_2 : (T3 Str Str Str)) => (rg_three (i := 4) (j := 5) (k := 6) (ρ1 := [.own (enc (word : Str)), .own (enc (p_1.a : Str)), .own (enc (p_1.b : Str)), .own (enc (p_1.c : Str)), .own (enc (p_2.a : Str)), .any, .any]) (ρ2 := [.own (enc (word : Str)), .own (enc (p_1.a : Str)), .own (enc (p_1.b : Str)), .own (enc (p_1.c : Str)), .own (enc (p_2.a : Str)), .own (enc (p_2.b : Str)), .any]) (ρ' := [.own (enc (word : Str)), .own (enc (p_1.a : Str)), .own (enc (p_1.b : Str)), .own (enc (p_1.c : Str)), .own (enc (p_2.a : Str)), .own (enc (p_2.b : Str)), .own (enc (p_2.c : Str))]) (show 4 < 7 by decide) (show 5 < 7 by decide) (show 6 < 7 by decide) (by decide) (by decide) (by decide) rfl rfl rfl)) (fun (p_2 : (T3 Str Str Str)) =>
  (rb_ret (re_call1 (re_tupL (ras_cons (re_v (i := 1) (a := (p_1.a : Str)) rfl) (ras_cons (re_v (i := 4) (a := (p_2.a : Str)) rfl) (ras_cons (re_v (i := 6) (a := (p_2.c : Str)) rfl) ras_nil))))))))))) (by rw [tinW_fn] at h; exact h)⟩
/-! ### can_be -/
def cabB (telling : (List Nat)) (hands : Nat) (m : Nat) : M (Ctl Bool Unit Unit) :=
  (bindW (fun n_ P_ => (retW (telling : (List Nat))) n_ fun xs_ n1_ => ∃ a_ b_ c_, xs_ = [a_, b_, c_] ∧ P_ (⟨a_, b_, c_⟩ : (T3 Nat Nat Nat)) n1_) fun (p_1 : (T3 Nat Nat Nat)) =>
  (bindW (andW (b2W (retW (p_1.a : Nat)) (retW (hands : Nat)) (fun a b : Nat => retW (decide (a < b)))) (andW (b2W (retW (p_1.b : Nat)) (retW (hands : Nat)) (fun a b : Nat => retW (decide (a < b)))) (b2W (retW (p_1.c : Nat)) (retW (m : Nat)) (fun a b : Nat => retW (decide (a < b)))))) fun r => retW (.ret r)))
theorem cabW_ex : ∃ g : (List Nat) → Nat → Nat → M Bool, ∀ telling hands m, g telling hands m = outW (cabB telling hands m) := ⟨fun telling hands m => outW (cabB telling hands m), fun _ _ _ => rfl⟩
/-- sealed -/
def cabW : (List Nat) → Nat → Nat → M Bool := Classical.choose cabW_ex
theorem cabW_eq (telling : (List Nat)) (hands : Nat) (m : Nat) : cabW telling hands m = outW (cabB telling hands m) := Classical.choose_spec cabW_ex telling hands m
theorem cabW_fn : cabW = fun telling hands m => outW (cabB telling hands m) := funext fun telling => funext fun hands => funext fun m => cabW_eq telling hands m
theorem scCab : FnScope ["telling", "hands", "m", "teller", "hearer", "letter"] ["telling", "hands", "m"] (defScope sCab) := ⟨rfl, rfl, rfl, by decide +kernel, rfl, by decide +kernel, by decide +kernel⟩
theorem ok_cab (F : Fun K "can_be" "can_be" sCab f fd) (b : Bls2 mg) : FnOk P w K mg base CX0 1 f fd ["telling", "hands", "m"] (spW3 K T cabW) := by
  refine F.ok scCab (fun vs H Q E h => ?_) (fun cdv A outer s H vs Q E hr h => ?_)
  · exact spW3_len h
  · refine ⟨_, (pss_cons (ps_asg (pv 0) (pg_tup (by rfl) (pgs_cons (pg_name (i := 3) scCab.nd rfl (Or.inl rfl)) (pgs_cons (pg_name (i := 4) scCab.nd rfl (Or.inl rfl)) (pgs_cons (pg_name (i := 5) scCab.nd rfl (Or.inl rfl)) pgs_nil)))))
      (pss_cons (ps_ret (pe_and (pe_cmpR op_lt (pv 3) (pv 1) (nomark _)) (pe_and (pe_cmpR op_lt (pv 4) (pv 1) (nomark _)) (pe_one (pe_cmpR op_lt (pv 5) (pv 2) (nomark _))))))
      pss_nil)), w3_run (N := ["telling", "hands", "m", "teller", "hearer", "letter"]) psl_own psl_own psl_own (mB := cabB) (ρ := fun (telling : (List Nat)) (hands : Nat) (m : Nat) => [.own (enc (telling : (List Nat))), .own (enc (hands : Nat)), .own (enc (m : Nat)), .any, .any, .any]) (ρn := fun _ => []) (ρb := fun _ => []) (C := fun _ => True) (fun _ _ _ => rfl) trivial (fun (telling : (List Nat)) (hands : Nat) (m : Nat) => 
  (rb_asg (ρ2 := fun (p_1 : (T3 Nat Nat Nat)) => [.own (enc (telling : (List Nat))), .own (enc (hands : Nat)), .own (enc (m : Nat)), .own (enc (p_1.a : Nat)), .own (enc (p_1.b : Nat)), .own (enc (p_1.c : Nat))]) (re_three (re_v (i := 0) (a := (telling : (List Nat))) rfl)) (fun (p_1 : (T3 Nat Nat Nat)) => (rg_three (i := 3) (j := 4) (k := 5) (ρ1 := [.own (enc (telling : (List Nat))), .own (enc (hands : Nat)), .own (enc (m : Nat)), .own (enc (p_1.a : Nat)), .any, .any]) (ρ2 := [.own (enc (telling : (List Nat))), .own (enc (hands : Nat)), .own (enc (m : Nat)), .own (enc (p_1.a : Nat)), .own (enc (p_1.b : Nat)), .any]) (ρ' := [.own (enc (telling : (List Nat))), .own (enc (hands : Nat)), .own (enc (m : Nat)), .own (enc (p_1.a : Nat)), .own (enc (p_1.b : Nat)), .own (enc (p_1.c : Nat))]) (show 3 < 6 by decide) (show 4 < 6 by decide) (show 5 < 6 by decide) (by decide) (by decide) (by decide) rfl rfl rfl)) (fun (p_1 : (T3 Nat Nat Nat)) =>
  (rb_ret (re_and (re_op ow_ltN (re_v (i := 3) (a := (p_1.a : Nat)) rfl) (re_v (i := 1) (a := (hands : Nat)) rfl)) (re_and (re_op ow_ltN (re_v (i := 4) (a := (p_1.b : Nat)) rfl) (re_v (i := 1) (a := (hands : Nat)) rfl)) (re_op ow_ltN (re_v (i := 5) (a := (p_1.c : Nat)) rfl) (re_v (i := 2) (a := (m : Nat)) rfl)))))))) (by rw [cabW_fn] at h; exact h)⟩
/-! ### beat_in -/
def binB (words : (Option (Lst Str))) (hands : Nat) (m : Nat) : M (Ctl (Option (List (List Nat))) Unit Unit) :=
  (bindW (orW (bindW (retW (words : (Option (Lst Str)))) fun x : (Option (Lst Str)) => retW x.isNone) (b2W (bindW (getW (retW (words : (Option (Lst Str))))) fun xs : (Lst Str) => retW xs.l.length) (retW (0 : Nat)) (fun a b : Nat => retW (decide (a = b))))) fun B_ => seqW (if B_ = true then (bindW (retW (none : (Option (List (List Nat))))) fun r => retW (.ret r)) else (retW (.nxt (() : Unit)))) fun (s_1 : Unit) =>
  (bindW (b2W (retW (words : (Option (Lst Str)))) (mapW some (bindW (b2W (retW ("-" : Str)) (retW ([] : List Str)) fun a as => retW (a :: as)) fun xs => reqW (xs.length ≤ sizeLine) (retW (⟨xs⟩ : Lst Str)))) (fun (a : (Option (Lst Str))) (b : (Option (Lst Str))) => reqW (shapeOk (enc a) ∧ shapeOk (enc b)) (retW (PyData.eqv (enc a) (enc b))))) fun B_ => seqW (if B_ = true then (bindW (mapW some (bindW (retW ([] : (List (List Nat)))) fun xs => reqW (xs.length ≤ sizeLine) (retW xs))) fun r => retW (.ret r)) else (retW (.nxt (() : Unit)))) fun (s_2 : Unit) =>
  (bindW (bindW (mapW Lst.l (getW (retW (words : (Option (Lst Str)))))) fun X_ => reqW (X_.length ≤ sizeLine) (lcW (fun (word_3 : Str) => (retW true)) (fun (word_3 : Str) => (c1W (retW (word_3 : Str)) fun A_1 => pureW (tinW A_1))) X_ [])) fun (tellings_4 : (Lst (Option (List Nat)))) =>
  (bindW (mapW (fun b => !b) (bindW (bindW (retW (tellings_4 : (Lst (Option (List Nat)))).l) fun X_ => reqW (X_.length ≤ sizeLine) (lcW (fun (telling_5 : (Option (List Nat))) => (retW true)) (fun (telling_5 : (Option (List Nat))) => (andW (bindW (retW (telling_5 : (Option (List Nat)))) fun x : (Option (List Nat)) => retW (!x.isNone)) (c3W (getW (retW (telling_5 : (Option (List Nat))))) (retW (hands : Nat)) (retW (m : Nat)) fun A_1 A_2 A_3 => pureW (cabW A_1 A_2 A_3)))) X_ [])) fun xs : Lst Bool => retW (xs.l.all id))) fun B_ => seqW (if B_ = true then (bindW (retW (none : (Option (List (List Nat))))) fun r => retW (.ret r)) else (retW (.nxt (() : Unit)))) fun (s_6 : Unit) =>
  (bindW (mapW (fun b => !b) (bindW (bindW (bindW (slLW (retW (tellings_4 : (Lst (Option (List Nat))))) (bindW (retW (1 : Nat)) fun k => retW (some (k : Int))) (retW none)) fun ys => retW ((tellings_4 : (Lst (Option (List Nat)))).l.zip ys.l)) fun X_ => reqW (X_.length ≤ sizeLine) (lcW (fun (x_7 : ((Option (List Nat)) × (Option (List Nat)))) => (retW true)) (fun (x_7 : ((Option (List Nat)) × (Option (List Nat)))) => (b2W (b2W (getW (retW (x_7.1 : (Option (List Nat))))) (retW (0 : Nat)) fun (xs : (List Nat)) (i : Nat) n P => ∃ a, xs[i]? = some a ∧ P a n) (b2W (getW (retW (x_7.2 : (Option (List Nat))))) (retW (0 : Nat)) fun (xs : (List Nat)) (i : Nat) n P => ∃ a, xs[i]? = some a ∧ P a n) (fun a b : Nat => retW (decide (a < b))))) X_ [])) fun xs : Lst Bool => retW (xs.l.all id))) fun B_ => seqW (if B_ = true then (bindW (retW (none : (Option (List (List Nat))))) fun r => retW (.ret r)) else (retW (.nxt (() : Unit)))) fun (s_8 : Unit) =>
  (bindW (mapW some (fun n_ P_ => (bindW (retW (tellings_4 : (Lst (Option (List Nat))))) fun xs : (Lst (Option (List Nat))) => retW xs.l) n_ fun xs_ n1_ => ∃ ns_ : (List (List Nat)), xs_ = ns_.map some ∧ P_ ns_ n1_)) fun r => retW (.ret r)))))))
theorem binW_ex : ∃ g : (Option (Lst Str)) → Nat → Nat → M (Option (List (List Nat))), ∀ words hands m, g words hands m = outW (binB words hands m) := ⟨fun words hands m => outW (binB words hands m), fun _ _ _ => rfl⟩
/-- sealed -/
def binW : (Option (Lst Str)) → Nat → Nat → M (Option (List (List Nat))) := Classical.choose binW_ex
theorem binW_eq (words : (Option (Lst Str))) (hands : Nat) (m : Nat) : binW words hands m = outW (binB words hands m) := Classical.choose_spec binW_ex words hands m
theorem binW_fn : binW = fun words hands m => outW (binB words hands m) := funext fun words => funext fun hands => funext fun m => binW_eq words hands m
theorem scBin : FnScope ["words", "hands", "m", "tellings", "word", "telling", "one", "other"] ["words", "hands", "m"] (defScope sBin) := ⟨rfl, rfl, rfl, by decide +kernel, rfl, by decide +kernel, by decide +kernel⟩
theorem ok_bin {f_cab f_tin : Addr} {d_cab d_tin : FuncData} (F : Fun K "beat_in" "beat_in" sBin f fd) (b : Bls2 mg) (c_cab : CalF P w K mg base 1 "can_be" f_cab d_cab ["telling", "hands", "m"] (spW3 K T cabW)) (c_tin : CalF P w K mg base 3 "telling_in" f_tin d_tin ["word"] (spW1 K T tinW)) : FnOk P w K mg base CX0 4 f fd ["words", "hands", "m"] (spW3 K T binW) := by
  refine F.ok scBin (fun vs H Q E h => ?_) (fun cdv A outer s H vs Q E hr h => ?_)
  · exact spW3_len h
  · refine ⟨_, (pss_cons (ps_if (PW.pt (pw_or (pt_cmp (pc_isN (pv 0))) (pw_or1 (pt_cmpR op_eq (pe_callB call_len_seq (by rfl) b.len PySem.boot_len (pa_cons (pv 0) pa_nil)) pe_int (nomark _))))) (pss_cons (ps_ret pe_non)
      pss_nil) pss_nil)
      (pss_cons (ps_if (pt_cmpR (op_eqD hr.units) (pv 0) (pe_lst (pa_cons pe_str pa_nil)) (nomark _)) (pss_cons (ps_ret (pe_tup pa_nil))
      pss_nil) pss_nil)
      (pss_cons (ps_setLc (i := 3) (own := [("word", 4)]) (g := (gName 4)) (tt := tYes) (te := (tCall (spW1 K T tinW) [] E0 (tCons (tVar 4) tNil))) (by rfl) scBin.nd rfl (by rfl) (by rfl) (pi_list (pv 0)) (blkOk_by (own := [("word", 4)]) (N := ["words", "hands", "m", "tellings", "word", "telling", "one", "other"]) (sc := defScope sBin) (by decide +kernel)) (fun _ _ _ _ _ => (pg_name (i := 4) scBin.nd rfl (Or.inl rfl))) (fun _ _ _ _ _ => pts_nil) (fun _ _ _ _ _ => (pe_call c_tin.G (hr.mono (by decide)) (by rfl) c_tin.g c_tin.kp c_tin.b .nil pass0 (pa_cons (pv 4) pa_nil))))
      (pss_cons (ps_if (pt_not (pt_val (pe_callB (cr_all rfl) (by rfl) b.all (by decide +kernel) (pa_cons (pe_lc (own := [("telling", 5)]) (g := (gName 5)) (tt := tYes) (te := (tAndV (tNotN (tVar 5)) (tCall (spW3 K T cabW) [] E0 (tCons (tVar 5) (tCons (tVar 1) (tCons (tVar 2) tNil)))))) (by rfl) scBin.nd (pi_list (pv 3)) (blkOk_by (own := [("telling", 5)]) (N := ["words", "hands", "m", "tellings", "word", "telling", "one", "other"]) (sc := defScope sBin) (by decide +kernel)) (fun _ _ _ _ _ => (pg_name (i := 5) scBin.nd rfl (Or.inl rfl))) (fun _ _ _ _ _ => pts_nil) (fun _ _ _ _ _ => (pe_and (pe_cmp (pc_notN (pv 5))) (pe_one (pe_call c_cab.G (hr.mono (by decide)) (by rfl) c_cab.g c_cab.kp c_cab.b .nil pass0 (pa_cons (pv 5) (pa_cons (pv 1) (pa_cons (pv 2) pa_nil)))))))) pa_nil)))) (pss_cons (ps_ret pe_non)
      pss_nil) pss_nil)
      (pss_cons (ps_if (pt_not (pt_val (pe_callB (cr_all rfl) (by rfl) b.all (by decide +kernel) (pa_cons (pe_lc (own := [("one", 6), ("other", 7)]) (g := (gTup K 2 (gCons (gName 6) (gCons (gName 7) gNil)))) (tt := tYes) (te := (tOp _ (tOp (L2.rIxT K) (tVar 6) (tC (.int 0))) (tOp (L2.rIxT K) (tVar 7) (tC (.int 0))))) (by rfl) scBin.nd (RZ.pi_zipA (by rfl) b.zip (pa_cons (pv 3) (pa_cons (pe_slice sl_list (pv 3) (po_some pe_int) po_none) pa_nil))) (blkOk_by (own := [("one", 6), ("other", 7)]) (N := ["words", "hands", "m", "tellings", "word", "telling", "one", "other"]) (sc := defScope sBin) (by decide +kernel)) (fun _ _ _ _ _ => (pg_tup (by rfl) (pgs_cons (pg_name (i := 6) scBin.nd rfl (Or.inl rfl)) (pgs_cons (pg_name (i := 7) scBin.nd rfl (Or.inl rfl)) pgs_nil)))) (fun _ _ _ _ _ => pts_nil) (fun _ _ _ _ _ => (pe_cmpR op_lt (pe_ix ix_tup (pv 6) pe_int (fun _ _ => rfl)) (pe_ix ix_tup (pv 7) pe_int (fun _ _ => rfl)) (nomark _)))) pa_nil)))) (pss_cons (ps_ret pe_non)
      pss_nil) pss_nil)
      (pss_cons (ps_ret (pe_callTy call_tuple_of (by rfl) b.tuple (by decide +kernel) (pa_cons (pv 3) pa_nil)))
      pss_nil)))))), w3_run (N := ["words", "hands", "m", "tellings", "word", "telling", "one", "other"]) psl_bor psl_own psl_own (mB := binB) (ρ := fun (words : (Option (Lst Str))) (hands : Nat) (m : Nat) => [.bor (enc (words : (Option (Lst Str)))), .own (enc (hands : Nat)), .own (enc (m : Nat)), .any, .any, .any, .any, .any]) (ρn := fun _ => []) (ρb := fun _ => []) (C := fun _ => True) (fun _ _ _ => rfl) trivial (fun (words : (Option (Lst Str))) (hands : Nat) (m : Nat) => 
  (rb_if (ρ1 := fun (s_1 : Unit) => [.bor (enc (words : (Option (Lst Str)))), .own (enc (hands : Nat)), .own (enc (m : Nat)), .any, .any, .any, .any, .any]) (rt_or (rt_val (re_un (ta := (tVar 0)) (t := tIsN (tVar 0)) (fun _ _ _ h => h) uw_isNM (re_bor (i := 0) (a := (words : (Option (Lst Str)))) rfl))) (rt_test (re_op ow_eqN (re_cb uw_lenL (re_getW (re_bor (i := 0) (a := (words : (Option (Lst Str)))) rfl))) (re_nat 0))))
  (rb_ret (re_none (α := (List (List Nat)))))
  (rb_end (s := (() : Unit)) ⟨.eq _, ⟨.eq _, ⟨.eq _, ⟨.any _, ⟨.any _, ⟨.any _, ⟨.any _, ⟨.any _, trivial⟩⟩⟩⟩⟩⟩⟩⟩) (fun (s_1 : Unit) =>
  (rb_if (ρ1 := fun (s_2 : Unit) => [.bor (enc (words : (Option (Lst Str)))), .own (enc (hands : Nat)), .own (enc (m : Nat)), .any, .any, .any, .any, .any]) (rt_test (re_op ow_eqD (re_bor (i := 0) (a := (words : (Option (Lst Str)))) rfl) (re_some (re_lst (ras_cons (re_str "-") ras_nil)))))
  (rb_ret (re_some (re_tupL (α := (List Nat)) ras_nil)))
  (rb_end (s := (() : Unit)) ⟨.eq _, ⟨.eq _, ⟨.eq _, ⟨.any _, ⟨.any _, ⟨.any _, ⟨.any _, ⟨.any _, trivial⟩⟩⟩⟩⟩⟩⟩⟩) (fun (s_2 : Unit) =>
  (rb_asg (ρ2 := fun (tellings_4 : (Lst (Option (List Nat)))) => [.bor (enc (words : (Option (Lst Str)))), .own (enc (hands : Nat)), .own (enc (m : Nat)), .own (enc (tellings_4 : (Lst (Option (List Nat))))), .any, .any, .any, .any]) (re_lc (vs := [4]) (ρw := [.bor (enc (words : (Option (Lst Str)))), .own (enc (hands : Nat)), .own (enc (m : Nat)), .any, .any, .any, .any, .any]) (ρx := fun (word_3 : Str) => [.bor (enc (words : (Option (Lst Str)))), .own (enc (hands : Nat)), .own (enc (m : Nat)), .any, .own (enc (word_3 : Str)), .any, .any, .any]) rfl (ri_reb (reb_getW (reb_bor (i := 0) (a := (words : (Option (Lst Str)))) rfl))) (by decide) (fun (word_3 : Str) => (rg_name (i := 4) (ρ' := [.bor (enc (words : (Option (Lst Str)))), .own (enc (hands : Nat)), .own (enc (m : Nat)), .any, .own (enc (word_3 : Str)), .any, .any, .any]) (show 4 < 8 by decide) rfl)) (fun (word_3 : Str) => rt_yes) (fun (word_3 : Str) => (re_call1 (re_v (i := 4) (a := (word_3 : Str)) rfl)))) (fun (tellings_4 : (Lst (Option (List Nat)))) => rg_name (i := 3) (show 3 < 8 by decide) rfl) (fun (tellings_4 : (Lst (Option (List Nat)))) =>
  (rb_freeze (i := 3) (ρ2 := [.bor (enc (words : (Option (Lst Str)))), .own (enc (hands : Nat)), .own (enc (m : Nat)), .bor (enc (tellings_4 : (Lst (Option (List Nat))))), .any, .any, .any, .any]) rfl rfl (rb_if (ρ1 := fun (s_6 : Unit) => [.bor (enc (words : (Option (Lst Str)))), .own (enc (hands : Nat)), .own (enc (m : Nat)), .bor (enc (tellings_4 : (Lst (Option (List Nat))))), .any, .any, .any, .any]) (rt_not (rt_val (re_cb uw_all (re_lc (vs := [5]) (ρw := [.bor (enc (words : (Option (Lst Str)))), .own (enc (hands : Nat)), .own (enc (m : Nat)), .bor (enc (tellings_4 : (Lst (Option (List Nat))))), .any, .any, .any, .any]) (ρx := fun (telling_5 : (Option (List Nat))) => [.bor (enc (words : (Option (Lst Str)))), .own (enc (hands : Nat)), .own (enc (m : Nat)), .bor (enc (tellings_4 : (Lst (Option (List Nat))))), .any, .own (enc (telling_5 : (Option (List Nat)))), .any, .any]) rfl (ri_bor (i := 3) (xs := (tellings_4 : (Lst (Option (List Nat))))) rfl) (by decide) (fun (telling_5 : (Option (List Nat))) => (rg_name (i := 5) (ρ' := [.bor (enc (words : (Option (Lst Str)))), .own (enc (hands : Nat)), .own (enc (m : Nat)), .bor (enc (tellings_4 : (Lst (Option (List Nat))))), .any, .own (enc (telling_5 : (Option (List Nat)))), .any, .any]) (show 5 < 8 by decide) rfl)) (fun (telling_5 : (Option (List Nat))) => rt_yes) (fun (telling_5 : (Option (List Nat))) => (re_and (re_un (ta := (tVar 5)) (t := tNotN (tVar 5)) (fun _ _ _ h => h) uw_notNT (re_v (i := 5) (a := (telling_5 : (Option (List Nat)))) rfl)) (re_call3 (re_getW (re_v (i := 5) (a := (telling_5 : (Option (List Nat)))) rfl)) (re_v (i := 1) (a := (hands : Nat)) rfl) (re_v (i := 2) (a := (m : Nat)) rfl))))))))
  (rb_ret (re_none (α := (List (List Nat)))))
  (rb_end (s := (() : Unit)) ⟨.eq _, ⟨.eq _, ⟨.eq _, ⟨.eq _, ⟨.any _, ⟨.any _, ⟨.any _, ⟨.any _, trivial⟩⟩⟩⟩⟩⟩⟩⟩) (fun (s_6 : Unit) =>
  (rb_if (ρ1 := fun (s_8 : Unit) => [.bor (enc (words : (Option (Lst Str)))), .own (enc (hands : Nat)), .own (enc (m : Nat)), .bor (enc (tellings_4 : (Lst (Option (List Nat))))), .any, .any, .any, .any]) (rt_not (rt_val (re_cb uw_all (re_lc (vs := [6, 7]) (ρw := [.bor (enc (words : (Option (Lst Str)))), .own (enc (hands : Nat)), .own (enc (m : Nat)), .bor (enc (tellings_4 : (Lst (Option (List Nat))))), .any, .any, .any, .any]) (ρx := fun (x_7 : ((Option (List Nat)) × (Option (List Nat)))) => [.bor (enc (words : (Option (Lst Str)))), .own (enc (hands : Nat)), .own (enc (m : Nat)), .bor (enc (tellings_4 : (Lst (Option (List Nat))))), .any, .any, .own (enc (x_7.1 : (Option (List Nat)))), .own (enc (x_7.2 : (Option (List Nat))))]) rfl (ri_zipLB (i := 3) (xs := (tellings_4 : (Lst (Option (List Nat))))) rfl (re_slL (re_bor (i := 3) (a := (tellings_4 : (Lst (Option (List Nat))))) rfl) (ro_nat (re_nat 1)) ro_none)) (by decide) (fun (x_7 : ((Option (List Nat)) × (Option (List Nat)))) => (rg_two (i := 6) (j := 7) (ρ1 := [.bor (enc (words : (Option (Lst Str)))), .own (enc (hands : Nat)), .own (enc (m : Nat)), .bor (enc (tellings_4 : (Lst (Option (List Nat))))), .any, .any, .own (enc (x_7.1 : (Option (List Nat)))), .any]) (ρ' := [.bor (enc (words : (Option (Lst Str)))), .own (enc (hands : Nat)), .own (enc (m : Nat)), .bor (enc (tellings_4 : (Lst (Option (List Nat))))), .any, .any, .own (enc (x_7.1 : (Option (List Nat)))), .own (enc (x_7.2 : (Option (List Nat))))]) (show 6 < 8 by decide) (show 7 < 8 by decide) (by decide) rfl rfl)) (fun (x_7 : ((Option (List Nat)) × (Option (List Nat)))) => rt_yes) (fun (x_7 : ((Option (List Nat)) × (Option (List Nat)))) => (re_op ow_ltN (re_op ow_ixTN (re_getW (re_v (i := 6) (a := (x_7.1 : (Option (List Nat)))) rfl)) (re_nat 0)) (re_op ow_ixTN (re_getW (re_v (i := 7) (a := (x_7.2 : (Option (List Nat)))) rfl)) (re_nat 0))))))))
  (rb_ret (re_none (α := (List (List Nat)))))
  (rb_end (s := (() : Unit)) ⟨.eq _, ⟨.eq _, ⟨.eq _, ⟨.eq _, ⟨.any _, ⟨.any _, ⟨.any _, ⟨.any _, trivial⟩⟩⟩⟩⟩⟩⟩⟩) (fun (s_8 : Unit) =>
  (rb_ret (re_some (re_unS (re_cb uw_tupL (re_bor (i := 3) (a := (tellings_4 : (Lst (Option (List Nat))))) rfl))))))))))))))))) (by rw [binW_fn] at h; exact h)⟩
/-! ### read_plan -/
def rplB (text : Str) : M (Ctl (T4 Nat Nat (List (List (List Nat))) Nat) Unit Unit) :=
  (bindW (c1W (retW (text : Str)) fun A_1 => pureW (rofW A_1)) fun (rows_1 : (Lst Str)) =>
  (bindW (c4W (retW (rows_1 : (Lst Str))) (retW (0 : Nat)) (retW ("plan" : Str)) (retW (3 : Nat)) fun A_1 A_2 A_3 A_4 => pureW (natW A_1 A_2 A_3 A_4)) fun (head_2 : (Option (List Nat))) =>
  (bindW (bindW (retW (head_2 : (Option (List Nat)))) fun x : (Option (List Nat)) => retW x.isNone) fun B_ => seqW (if B_ = true then (fun _ _ => False) else (retW (.nxt (() : Unit)))) fun (s_3 : Unit) =>
  (bindW (fun n_ P_ => (getW (retW (head_2 : (Option (List Nat))))) n_ fun xs_ n1_ => ∃ a_ b_ c_, xs_ = [a_, b_, c_] ∧ P_ (⟨a_, b_, c_⟩ : (T3 Nat Nat Nat)) n1_) fun (p_4 : (T3 Nat Nat Nat)) =>
  (bindW (orW (mapW (fun b => !b) (chW (fun a b : Nat => decide (a ≤ b)) (fun a b : Nat => decide (a ≤ b)) (retW (2 : Nat)) (retW (p_4.a : Nat)) (retW (64 : Nat)))) (orW (mapW (fun b => !b) (chW (fun a b : Nat => decide (a ≤ b)) (fun a b : Nat => decide (a ≤ b)) (retW (1 : Nat)) (retW (p_4.b : Nat)) (retW (60 : Nat)))) (b2W (retW (p_4.c : Nat)) (retW (p_4.a : Nat)) (fun a b : Nat => retW (decide (b ≤ a)))))) fun B_ => seqW (if B_ = true then (fun _ _ => False) else (retW (.nxt (() : Unit)))) fun (s_5 : Unit) =>
  (bindW (bindW (retW ([] : List (List (List Nat)))) fun xs => reqW (xs.length ≤ sizeLine) (retW (⟨xs⟩ : (Lst (List (List Nat)))))) fun (beats_6 : (Lst (List (List Nat)))) =>
  (bindW (b2W (retW (1 : Nat)) (bindW (retW (rows_1 : (Lst Str))) fun xs : (Lst Str) => retW xs.l.length) fun a b => reqW (a < 4611686018427387904 ∧ b < 4611686018427387904) (retW (rng2 a b))) fun X_ => seqW (forW (fun (at_8 : Nat) (s_7 : (Lst (List (List Nat)))) =>
  (bindW (c3W (c3W (retW (rows_1 : (Lst Str))) (retW (at_8 : Nat)) (retW ("beat" : Str)) fun A_1 A_2 A_3 => pureW (watW A_1 A_2 A_3)) (retW (p_4.a : Nat)) (retW (p_4.b : Nat)) fun A_1 A_2 A_3 => pureW (binW A_1 A_2 A_3)) fun (beat_9 : (Option (List (List Nat)))) =>
  (bindW (orW (bindW (retW (beat_9 : (Option (List (List Nat))))) fun x : (Option (List (List Nat))) => retW x.isNone) (b2W (retW (at_8 : Nat)) (retW (200 : Nat)) (fun a b : Nat => retW (decide (b < a))))) fun B_ => seqW (if B_ = true then (fun _ _ => False) else (retW (.nxt (() : Unit)))) fun (s_10 : Unit) =>
  (bindW (getW (retW (beat_9 : (Option (List (List Nat)))))) fun (y_11 : (List (List Nat))) => reqW ((s_7 : (Lst (List (List Nat)))).l.length < sizeLine)
  (retW (.nxt ((⟨(s_7 : (Lst (List (List Nat)))).l ++ [y_11]⟩ : (Lst (List (List Nat)))) : (Lst (List (List Nat)))))))))) X_ (beats_6 : (Lst (List (List Nat))))) fun (s_7 : (Lst (List (List Nat)))) =>
  (bindW (t4W (retW (p_4.a : Nat)) (retW (p_4.b : Nat)) (bindW (retW (s_7 : (Lst (List (List Nat))))) fun xs : (Lst (List (List Nat))) => retW xs.l) (retW (p_4.c : Nat))) fun r => retW (.ret r)))))))))
theorem rplW_ex : ∃ g : Str → M (T4 Nat Nat (List (List (List Nat))) Nat), ∀ text, g text = outW (rplB text) := ⟨fun text => outW (rplB text), fun _ => rfl⟩
/-- sealed -/
def rplW : Str → M (T4 Nat Nat (List (List (List Nat))) Nat) := Classical.choose rplW_ex
theorem rplW_eq (text : Str) : rplW text = outW (rplB text) := Classical.choose_spec rplW_ex text
theorem rplW_fn : rplW = fun text => outW (rplB text) := funext fun text => rplW_eq text
theorem scRpl : FnScope ["text", "rows", "head", "beats", "at", "hands", "m", "source", "beat"] ["text"] (defScope sRpl) := ⟨rfl, rfl, rfl, by decide +kernel, rfl, by decide +kernel, by decide +kernel⟩
theorem ok_rpl {f_bin f_nat f_rof f_wat : Addr} {d_bin d_nat d_rof d_wat : FuncData} (F : Fun K "read_plan" "read_plan" sRpl f fd) (b : Bls2 mg) (c_bin : CalF P w K mg base 4 "beat_in" f_bin d_bin ["words", "hands", "m"] (spW3 K T binW)) (c_nat : CalF P w K mg base 3 "numbers_at" f_nat d_nat ["rows", "at", "first", "many"] (spW4 K T natW)) (c_rof : CalF P w K mg base 1 "rows_of" f_rof d_rof ["text"] (spW1 K T rofW)) (c_wat : CalF P w K mg base 1 "words_at" f_wat d_wat ["rows", "at", "first"] (spW3 K T watW)) (k_MOST_BEATS : ∃ t, mg "MOST_BEATS" = some (.int 200 t)) (k_MOST_HANDS : ∃ t, mg "MOST_HANDS" = some (.int 64 t)) (k_MOST_LETTERS : ∃ t, mg "MOST_LETTERS" = some (.int 60 t)) : FnOk P w K mg base CX0 5 f fd ["text"] (spW1 K T rplW) := by
  refine F.ok scRpl (fun vs H Q E h => ?_) (fun cdv A outer s H vs Q E hr h => ?_)
  · exact spW1_len h
  · refine ⟨_, (pss_cons (ps_set (i := 1) scRpl.nd rfl (.inl rfl) (pe_call c_rof.G (hr.mono (by decide)) (by rfl) c_rof.g c_rof.kp c_rof.b .nil pass0 (pa_cons (pv 0) pa_nil)))
      (pss_cons (ps_set (i := 2) scRpl.nd rfl (.inl rfl) (pe_call c_nat.G (hr.mono (by decide)) (by rfl) c_nat.g c_nat.kp c_nat.b .nil pass0 (pa_cons (pv 1) (pa_cons pe_int (pa_cons pe_str (pa_cons pe_int pa_nil))))))
      (pss_cons (ps_if (pt_cmp (pc_isN (pv 2))) (pss_cons ps_dead
      pss_nil) pss_nil)
      (pss_cons (ps_asg (pv 2) (pg_tup (by rfl) (pgs_cons (pg_name (i := 5) scRpl.nd rfl (Or.inl rfl)) (pgs_cons (pg_name (i := 6) scRpl.nd rfl (Or.inl rfl)) (pgs_cons (pg_name (i := 7) scRpl.nd rfl (Or.inl rfl)) pgs_nil)))))
      (pss_cons (ps_if (PW.pt (pw_or (pt_not (pt_chain op_le op_le pe_int (pv 5) (pe_glob (v := .int 64) (by rfl) k_MOST_HANDS.choose_spec ⟨_, rfl⟩))) (pw_or (pt_not (pt_chain op_le op_le pe_int (pv 6) (pe_glob (v := .int 60) (by rfl) k_MOST_LETTERS.choose_spec ⟨_, rfl⟩))) (pw_or1 (pt_cmpR op_ge (pv 7) (pv 5) (nomark _)))))) (pss_cons ps_dead
      pss_nil) pss_nil)
      (pss_cons (ps_set (i := 3) scRpl.nd rfl (.inl rfl) (pe_lst pa_nil))
      (pss_cons (ps_for PassesOwn.never rfl (pi_range2 (by rfl) b.range (pa_cons pe_int (pa_cons (pe_callB call_len_seq (by rfl) b.len PySem.boot_len (pa_cons (pv 1) pa_nil)) pa_nil))) (pg_name (i := 4) scRpl.nd rfl (Or.inl rfl))
      (pss_cons (ps_set (i := 8) scRpl.nd rfl (.inl rfl) (pe_call c_bin.G (hr.mono (by decide)) (by rfl) c_bin.g c_bin.kp c_bin.b .nil pass0 (pa_cons (pe_call c_wat.G (hr.mono (by decide)) (by rfl) c_wat.g c_wat.kp c_wat.b .nil pass0 (pa_cons (pv 1) (pa_cons (pv 4) (pa_cons pe_str pa_nil)))) (pa_cons (pv 5) (pa_cons (pv 6) pa_nil)))))
      (pss_cons (ps_if (PW.pt (pw_or (pt_cmp (pc_isN (pv 8))) (pw_or1 (pt_cmpR op_gt (pv 4) (pe_glob (v := .int 200) (by rfl) k_MOST_BEATS.choose_spec ⟨_, rfl⟩) (nomark _))))) (pss_cons ps_dead
      pss_nil) pss_nil)
      (pss_cons (ps_expr (pe_bm PySem.F.plainAttrs_list PySem.F.slot_list_append PySem.F.type_list_append mt_append (pv 3) (pa_cons (pv 8) pa_nil)))
      pss_nil))))
      (pss_cons (ps_ret (pe_tup (pa_cons (pv 5) (pa_cons (pv 6) (pa_cons (pe_callTy call_tuple_of (by rfl) b.tuple (by decide +kernel) (pa_cons (pv 3) pa_nil)) (pa_cons (pv 7) pa_nil))))))
      pss_nil)))))))), w1_run (N := ["text", "rows", "head", "beats", "at", "hands", "m", "source", "beat"]) psl_own (mB := rplB) (ρ := fun (text : Str) => [.own (enc (text : Str)), .any, .any, .any, .any, .any, .any, .any, .any]) (ρn := fun _ => []) (ρb := fun _ => []) (C := fun _ => True) (fun _ => rfl) trivial (fun (text : Str) => 
  (rb_asg (ρ2 := fun (rows_1 : (Lst Str)) => [.own (enc (text : Str)), .own (enc (rows_1 : (Lst Str))), .any, .any, .any, .any, .any, .any, .any]) (re_call1 (re_v (i := 0) (a := (text : Str)) rfl)) (fun (rows_1 : (Lst Str)) => rg_name (i := 1) (show 1 < 9 by decide) rfl) (fun (rows_1 : (Lst Str)) =>
  (rb_freeze (i := 1) (ρ2 := [.own (enc (text : Str)), .bor (enc (rows_1 : (Lst Str))), .any, .any, .any, .any, .any, .any, .any]) rfl rfl (rb_asg (ρ2 := fun (head_2 : (Option (List Nat))) => [.own (enc (text : Str)), .bor (enc (rows_1 : (Lst Str))), .own (enc (head_2 : (Option (List Nat)))), .any, .any, .any, .any, .any, .any]) (re_call4 (re_bor (i := 1) (a := (rows_1 : (Lst Str))) rfl) (re_nat 0) (re_str "plan") (re_nat 3)) (fun (head_2 : (Option (List Nat))) => rg_name (i := 2) (show 2 < 9 by decide) rfl) (fun (head_2 : (Option (List Nat))) =>
  (rb_if (ρ1 := fun (s_3 : Unit) => [.own (enc (text : Str)), .bor (enc (rows_1 : (Lst Str))), .own (enc (head_2 : (Option (List Nat)))), .any, .any, .any, .any, .any, .any]) (rt_val (re_un (ta := (tVar 2)) (t := tIsN (tVar 2)) (fun _ _ _ h => h) uw_isNT (re_v (i := 2) (a := (head_2 : (Option (List Nat)))) rfl)))
  rb_dead
  (rb_end (s := (() : Unit)) ⟨.eq _, ⟨.eq _, ⟨.eq _, ⟨.any _, ⟨.any _, ⟨.any _, ⟨.any _, ⟨.any _, ⟨.any _, trivial⟩⟩⟩⟩⟩⟩⟩⟩⟩) (fun (s_3 : Unit) =>
  (rb_asg (ρ2 := fun (p_4 : (T3 Nat Nat Nat)) => [.own (enc (text : Str)), .bor (enc (rows_1 : (Lst Str))), .own (enc (head_2 : (Option (List Nat)))), .any, .any, .own (enc (p_4.a : Nat)), .own (enc (p_4.b : Nat)), .own (enc (p_4.c : Nat)), .any]) (re_three (re_getW (re_v (i := 2) (a := (head_2 : (Option (List Nat)))) rfl))) (fun (p_4 : (T3 Nat Nat Nat)) => (rg_three (i := 5) (j := 6) (k := 7) (ρ1 := [.own (enc (text : Str)), .bor (enc (rows_1 : (Lst Str))), .own (enc (head_2 : (Option (List Nat)))), .any, .any, .own (enc (p_4.a : Nat)), .any, .any, .any]) (ρ2 := [.own (enc (text : Str)), .bor (enc (rows_1 : (Lst Str))), .own (enc (head_2 : (Option (List Nat)))), .any, .any, .own (enc (p_4.a : Nat)), .own (enc (p_4.b : Nat)), .any, .any]) (ρ' := [.own (enc (text : Str)), .bor (enc (rows_1 : (Lst Str))), .own (enc (head_2 : (Option (List Nat)))), .any, .any, .own (enc (p_4.a : Nat)), .own (enc (p_4.b : Nat)), .own (enc (p_4.c : Nat)), .any]) (show 5 < 9 by decide) (show 6 < 9 by decide) (show 7 < 9 by decide) (by decide) (by decide) (by decide) rfl rfl rfl)) (fun (p_4 : (T3 Nat Nat Nat)) =>
  (rb_if (ρ1 := fun (s_5 : Unit) => [.own (enc (text : Str)), .bor (enc (rows_1 : (Lst Str))), .own (enc (head_2 : (Option (List Nat)))), .any, .any, .own (enc (p_4.a : Nat)), .own (enc (p_4.b : Nat)), .own (enc (p_4.c : Nat)), .any]) (rt_or (rt_not (rt_test (re_chain (f := (fun a b : Nat => decide (a ≤ b))) (g := (fun a b : Nat => decide (a ≤ b))) ow_leN ow_leN (re_nat 2) (re_v (i := 5) (a := (p_4.a : Nat)) rfl) (re_nat 64)))) (rt_or (rt_not (rt_test (re_chain (f := (fun a b : Nat => decide (a ≤ b))) (g := (fun a b : Nat => decide (a ≤ b))) ow_leN ow_leN (re_nat 1) (re_v (i := 6) (a := (p_4.b : Nat)) rfl) (re_nat 60)))) (rt_test (re_op ow_geN (re_v (i := 7) (a := (p_4.c : Nat)) rfl) (re_v (i := 5) (a := (p_4.a : Nat)) rfl)))))
  rb_dead
  (rb_end (s := (() : Unit)) ⟨.eq _, ⟨.eq _, ⟨.eq _, ⟨.any _, ⟨.any _, ⟨.eq _, ⟨.eq _, ⟨.eq _, ⟨.any _, trivial⟩⟩⟩⟩⟩⟩⟩⟩⟩) (fun (s_5 : Unit) =>
  (rb_asg (ρ2 := fun (beats_6 : (Lst (List (List Nat)))) => [.own (enc (text : Str)), .bor (enc (rows_1 : (Lst Str))), .own (enc (head_2 : (Option (List Nat)))), .own (enc (beats_6 : (Lst (List (List Nat))))), .any, .own (enc (p_4.a : Nat)), .own (enc (p_4.b : Nat)), .own (enc (p_4.c : Nat)), .any]) (re_lst (α := (List (List Nat))) ras_nil) (fun (beats_6 : (Lst (List (List Nat)))) => rg_name (i := 3) (show 3 < 9 by decide) rfl) (fun (beats_6 : (Lst (List (List Nat)))) =>
  (rb_for (s0 := (beats_6 : (Lst (List (List Nat))))) (ρl := fun (s_7 : (Lst (List (List Nat)))) => [.own (enc (text : Str)), .bor (enc (rows_1 : (Lst Str))), .own (enc (head_2 : (Option (List Nat)))), .own (enc (s_7 : (Lst (List (List Nat))))), .any, .own (enc (p_4.a : Nat)), .own (enc (p_4.b : Nat)), .own (enc (p_4.c : Nat)), .any]) (ρx := fun (at_8 : Nat) (s_7 : (Lst (List (List Nat)))) => [.own (enc (text : Str)), .bor (enc (rows_1 : (Lst Str))), .own (enc (head_2 : (Option (List Nat)))), .own (enc (s_7 : (Lst (List (List Nat))))), .own (enc (at_8 : Nat)), .own (enc (p_4.a : Nat)), .own (enc (p_4.b : Nat)), .own (enc (p_4.c : Nat)), .any]) (ri_range2 (re_nat 1) (re_cb uw_lenL (re_bor (i := 1) (a := (rows_1 : (Lst Str))) rfl))) ⟨.eq _, ⟨.eq _, ⟨.eq _, ⟨.eq _, ⟨.any _, ⟨.eq _, ⟨.eq _, ⟨.eq _, ⟨.any _, trivial⟩⟩⟩⟩⟩⟩⟩⟩⟩ (fun (at_8 : Nat) (s_7 : (Lst (List (List Nat)))) => (rg_name (i := 4) (ρ' := [.own (enc (text : Str)), .bor (enc (rows_1 : (Lst Str))), .own (enc (head_2 : (Option (List Nat)))), .own (enc (s_7 : (Lst (List (List Nat))))), .own (enc (at_8 : Nat)), .own (enc (p_4.a : Nat)), .own (enc (p_4.b : Nat)), .own (enc (p_4.c : Nat)), .any]) (show 4 < 9 by decide) rfl)) (fun (at_8 : Nat) (s_7 : (Lst (List (List Nat)))) =>
  (rb_asg (ρ2 := fun (beat_9 : (Option (List (List Nat)))) => [.own (enc (text : Str)), .bor (enc (rows_1 : (Lst Str))), .own (enc (head_2 : (Option (List Nat)))), .own (enc (s_7 : (Lst (List (List Nat))))), .own (enc (at_8 : Nat)), .own (enc (p_4.a : Nat)), .own (enc (p_4.b : Nat)), .own (enc (p_4.c : Nat)), .own (enc (beat_9 : (Option (List (List Nat)))))]) (re_call3 (re_call3 (re_bor (i := 1) (a := (rows_1 : (Lst Str))) rfl) (re_v (i := 4) (a := (at_8 : Nat)) rfl) (re_str "beat")) (re_v (i := 5) (a := (p_4.a : Nat)) rfl) (re_v (i := 6) (a := (p_4.b : Nat)) rfl)) (fun (beat_9 : (Option (List (List Nat)))) => rg_name (i := 8) (show 8 < 9 by decide) rfl) (fun (beat_9 : (Option (List (List Nat)))) =>
  (rb_if (ρ1 := fun (s_10 : Unit) => [.own (enc (text : Str)), .bor (enc (rows_1 : (Lst Str))), .own (enc (head_2 : (Option (List Nat)))), .own (enc (s_7 : (Lst (List (List Nat))))), .own (enc (at_8 : Nat)), .own (enc (p_4.a : Nat)), .own (enc (p_4.b : Nat)), .own (enc (p_4.c : Nat)), .own (enc (beat_9 : (Option (List (List Nat)))))]) (rt_or (rt_val (re_un (ta := (tVar 8)) (t := tIsN (tVar 8)) (fun _ _ _ h => h) uw_isNT (re_v (i := 8) (a := (beat_9 : (Option (List (List Nat))))) rfl))) (rt_test (re_op ow_gtN (re_v (i := 4) (a := (at_8 : Nat)) rfl) (re_nat 200))))
  rb_dead
  (rb_end (s := (() : Unit)) ⟨.eq _, ⟨.eq _, ⟨.eq _, ⟨.eq _, ⟨.eq _, ⟨.eq _, ⟨.eq _, ⟨.eq _, ⟨.eq _, trivial⟩⟩⟩⟩⟩⟩⟩⟩⟩) (fun (s_10 : Unit) =>
  (rb_append (i := 3) (xs := (s_7 : (Lst (List (List Nat))))) (ρ2 := fun (y_11 : (List (List Nat))) => [.own (enc (text : Str)), .bor (enc (rows_1 : (Lst Str))), .own (enc (head_2 : (Option (List Nat)))), .own (enc ((⟨(s_7 : (Lst (List (List Nat)))).l ++ [y_11]⟩ : (Lst (List (List Nat)))) : (Lst (List (List Nat))))), .own (enc (at_8 : Nat)), .own (enc (p_4.a : Nat)), .own (enc (p_4.b : Nat)), .own (enc (p_4.c : Nat)), .own (enc (beat_9 : (Option (List (List Nat)))))]) rfl (re_getW (re_v (i := 8) (a := (beat_9 : (Option (List (List Nat))))) rfl)) (fun _ => rfl) (fun (y_11 : (List (List Nat))) =>
  (rb_end (s := ((⟨(s_7 : (Lst (List (List Nat)))).l ++ [y_11]⟩ : (Lst (List (List Nat)))) : (Lst (List (List Nat))))) ⟨.eq _, ⟨.eq _, ⟨.eq _, ⟨.eq _, ⟨.any _, ⟨.eq _, ⟨.eq _, ⟨.eq _, ⟨.any _, trivial⟩⟩⟩⟩⟩⟩⟩⟩⟩)))))))) (fun (s_7 : (Lst (List (List Nat)))) =>
  (rb_freeze (i := 3) (ρ2 := [.own (enc (text : Str)), .bor (enc (rows_1 : (Lst Str))), .own (enc (head_2 : (Option (List Nat)))), .bor (enc (s_7 : (Lst (List (List Nat))))), .any, .own (enc (p_4.a : Nat)), .own (enc (p_4.b : Nat)), .own (enc (p_4.c : Nat)), .any]) rfl rfl (rb_ret (re_t4 (re_v (i := 5) (a := (p_4.a : Nat)) rfl) (re_v (i := 6) (a := (p_4.b : Nat)) rfl) (re_cb uw_tupL (re_bor (i := 3) (a := (s_7 : (Lst (List (List Nat))))) rfl)) (re_v (i := 7) (a := (p_4.c : Nat)) rfl)))))))))))))))))))) (by rw [rplW_fn] at h; exact h)⟩
/-! ### _law_beat -/
def beaB (people : Nat) (count : Nat) : M (Ctl (List (T3 Nat Nat Nat)) Unit Unit) :=
  (bindW (bindW (retW ([] : List (T3 Nat Nat Nat))) fun xs => reqW (xs.length ≤ sizeLine) (retW (⟨xs⟩ : (Lst (T3 Nat Nat Nat))))) fun (found_1 : (Lst (T3 Nat Nat Nat))) =>
  (bindW (bindW (retW (people : Nat)) fun k => reqW (k < 4611686018427387904) (retW (List.range k))) fun X_ => seqW (forW (fun (one_3 : Nat) (s_2 : (Lst (T3 Nat Nat Nat))) =>
  (bindW (b2W (c1W (retW (3 : Nat)) fun A_1 => takeW A_1) (retW (0 : Nat)) (fun a b : Nat => retW (decide (a = b)))) fun B_ => seqW (if B_ = true then (bindW (t3W (retW (one_3 : Nat)) (c1W (retW (people : Nat)) fun A_1 => takeW A_1) (c1W (retW (count : Nat)) fun A_1 => takeW A_1)) fun (y_5 : (T3 Nat Nat Nat)) => reqW ((s_2 : (Lst (T3 Nat Nat Nat))).l.length < sizeLine)
  (retW (.nxt ((⟨(s_2 : (Lst (T3 Nat Nat Nat))).l ++ [y_5]⟩ : (Lst (T3 Nat Nat Nat))) : (Lst (T3 Nat Nat Nat)))))) else (retW (.nxt (s_2 : (Lst (T3 Nat Nat Nat)))))) fun (s_4 : (Lst (T3 Nat Nat Nat))) =>
  (retW (.nxt (s_4 : (Lst (T3 Nat Nat Nat))))))) X_ (found_1 : (Lst (T3 Nat Nat Nat)))) fun (s_2 : (Lst (T3 Nat Nat Nat))) =>
  (bindW (bindW (retW (s_2 : (Lst (T3 Nat Nat Nat)))) fun xs : (Lst (T3 Nat Nat Nat)) => retW xs.l) fun r => retW (.ret r))))
theorem beaW_ex : ∃ g : Nat → Nat → M (List (T3 Nat Nat Nat)), ∀ people count, g people count = outW (beaB people count) := ⟨fun people count => outW (beaB people count), fun _ _ => rfl⟩
/-- sealed -/
def beaW : Nat → Nat → M (List (T3 Nat Nat Nat)) := Classical.choose beaW_ex
theorem beaW_eq (people : Nat) (count : Nat) : beaW people count = outW (beaB people count) := Classical.choose_spec beaW_ex people count
theorem beaW_fn : beaW = fun people count => outW (beaB people count) := funext fun people => funext fun count => beaW_eq people count
theorem scBea : FnScope ["_law_pot_here", "_law_people", "_law_count", "_law_found", "_law_one"] ["_law_pot_here", "_law_people", "_law_count"] (defScope sBea) := ⟨rfl, rfl, rfl, by decide +kernel, rfl, by decide +kernel, by decide +kernel⟩
theorem ok_bea {f_take : Addr} {d_take : FuncData} (F : Fun K "_law_beat" "_law_beat" sBea f fd) (b : Bls2 mg) (c_take : CalF P w K mg base 1 "_law_take" f_take d_take ["_law_pot_here", "_law_size"] (spP1 K T takeW)) : FnOk P w K mg base CX0 2 f fd ["_law_pot_here", "_law_people", "_law_count"] (spP2 K T beaW) := by
  refine F.ok scBea (fun vs H Q E h => ?_) (fun cdv A outer s H vs Q E hr h => ?_)
  · exact spP2_len h
  · refine ⟨_, (pss_cons (ps_set (i := 3) scBea.nd rfl (.inl rfl) (pe_lst pa_nil))
      (pss_cons (ps_for PassesOwn.never rfl (pi_range1 (by rfl) b.range (pa_cons (pv 1) pa_nil)) (pg_name (i := 4) scBea.nd rfl (Or.inl rfl))
      (pss_cons (ps_if (pt_cmpR op_eq (pe_call c_take.G (hr.mono (by decide)) (by rfl) c_take.g c_take.kp c_take.b .nil pass0 (pa_cons (pv 0) (pa_cons pe_int pa_nil))) pe_int (nomark _)) (pss_cons (ps_expr (pe_bm PySem.F.plainAttrs_list PySem.F.slot_list_append PySem.F.type_list_append mt_append (pv 3) (pa_cons (pe_tup (pa_cons (pv 4) (pa_cons (pe_call c_take.G (hr.mono (by decide)) (by rfl) c_take.g c_take.kp c_take.b .nil pass0 (pa_cons (pv 0) (pa_cons (pv 1) pa_nil))) (pa_cons (pe_call c_take.G (hr.mono (by decide)) (by rfl) c_take.g c_take.kp c_take.b .nil pass0 (pa_cons (pv 0) (pa_cons (pv 2) pa_nil))) pa_nil)))) pa_nil)))
      pss_nil) pss_nil)
      pss_nil))
      (pss_cons (ps_ret (pe_callTy call_tuple_of (by rfl) b.tuple (by decide +kernel) (pa_cons (pv 3) pa_nil)))
      pss_nil))), p2_run (N := ["_law_pot_here", "_law_people", "_law_count", "_law_found", "_law_one"]) psl_own psl_own (mB := beaB) (ρ := fun (people : Nat) (count : Nat) => [.pot, .own (enc (people : Nat)), .own (enc (count : Nat)), .any, .any]) (ρn := fun _ => []) (ρb := fun _ => []) (C := fun _ => True) (fun _ _ => rfl) (fun _ => trivial) (fun (people : Nat) (count : Nat) => 
  (rb_asg (ρ2 := fun (found_1 : (Lst (T3 Nat Nat Nat))) => [.pot, .own (enc (people : Nat)), .own (enc (count : Nat)), .own (enc (found_1 : (Lst (T3 Nat Nat Nat)))), .any]) (re_lst (α := (T3 Nat Nat Nat)) ras_nil) (fun (found_1 : (Lst (T3 Nat Nat Nat))) => rg_name (i := 3) (show 3 < 5 by decide) rfl) (fun (found_1 : (Lst (T3 Nat Nat Nat))) =>
  (rb_for (s0 := (found_1 : (Lst (T3 Nat Nat Nat)))) (ρl := fun (s_2 : (Lst (T3 Nat Nat Nat))) => [.pot, .own (enc (people : Nat)), .own (enc (count : Nat)), .own (enc (s_2 : (Lst (T3 Nat Nat Nat)))), .any]) (ρx := fun (one_3 : Nat) (s_2 : (Lst (T3 Nat Nat Nat))) => [.pot, .own (enc (people : Nat)), .own (enc (count : Nat)), .own (enc (s_2 : (Lst (T3 Nat Nat Nat)))), .own (enc (one_3 : Nat))]) (ri_range (re_v (i := 1) (a := (people : Nat)) rfl)) ⟨.eq _, ⟨.eq _, ⟨.eq _, ⟨.eq _, ⟨.any _, trivial⟩⟩⟩⟩⟩ (fun (one_3 : Nat) (s_2 : (Lst (T3 Nat Nat Nat))) => (rg_name (i := 4) (ρ' := [.pot, .own (enc (people : Nat)), .own (enc (count : Nat)), .own (enc (s_2 : (Lst (T3 Nat Nat Nat)))), .own (enc (one_3 : Nat))]) (show 4 < 5 by decide) rfl)) (fun (one_3 : Nat) (s_2 : (Lst (T3 Nat Nat Nat))) =>
  (rb_if (ρ1 := fun (s_4 : (Lst (T3 Nat Nat Nat))) => [.pot, .own (enc (people : Nat)), .own (enc (count : Nat)), .own (enc (s_4 : (Lst (T3 Nat Nat Nat)))), .own (enc (one_3 : Nat))]) (rt_test (re_op ow_eqN (re_callp1 (ip := 0) rfl (re_nat 3)) (re_nat 0)))
  (rb_append (i := 3) (xs := (s_2 : (Lst (T3 Nat Nat Nat)))) (ρ2 := fun (y_5 : (T3 Nat Nat Nat)) => [.pot, .own (enc (people : Nat)), .own (enc (count : Nat)), .own (enc ((⟨(s_2 : (Lst (T3 Nat Nat Nat))).l ++ [y_5]⟩ : (Lst (T3 Nat Nat Nat))) : (Lst (T3 Nat Nat Nat)))), .own (enc (one_3 : Nat))]) rfl (re_t3 (re_v (i := 4) (a := (one_3 : Nat)) rfl) (re_callp1 (ip := 0) rfl (re_v (i := 1) (a := (people : Nat)) rfl)) (re_callp1 (ip := 0) rfl (re_v (i := 2) (a := (count : Nat)) rfl))) (fun _ => rfl) (fun (y_5 : (T3 Nat Nat Nat)) =>
  (rb_end (s := ((⟨(s_2 : (Lst (T3 Nat Nat Nat))).l ++ [y_5]⟩ : (Lst (T3 Nat Nat Nat))) : (Lst (T3 Nat Nat Nat)))) ⟨.eq _, ⟨.eq _, ⟨.eq _, ⟨.eq _, ⟨.eq _, trivial⟩⟩⟩⟩⟩)))
  (rb_end (s := (s_2 : (Lst (T3 Nat Nat Nat)))) ⟨.eq _, ⟨.eq _, ⟨.eq _, ⟨.eq _, ⟨.eq _, trivial⟩⟩⟩⟩⟩) (fun (s_4 : (Lst (T3 Nat Nat Nat))) =>
  (rb_end (s := (s_4 : (Lst (T3 Nat Nat Nat)))) ⟨.eq _, ⟨.eq _, ⟨.eq _, ⟨.eq _, ⟨.any _, trivial⟩⟩⟩⟩⟩)))) (fun (s_2 : (Lst (T3 Nat Nat Nat))) =>
  (rb_freeze (i := 3) (ρ2 := [.pot, .own (enc (people : Nat)), .own (enc (count : Nat)), .bor (enc (s_2 : (Lst (T3 Nat Nat Nat)))), .any]) rfl rfl (rb_ret (re_cb uw_tupL (re_bor (i := 3) (a := (s_2 : (Lst (T3 Nat Nat Nat)))) rfl))))))))) (by rw [beaW_fn] at h; exact h)⟩
/-! ### _law_row -/
def lroB (beat_here : (List (T3 Nat Nat Nat))) : M (Ctl Str Unit Unit) :=
  (bindW (bindW (retW (beat_here : (List (T3 Nat Nat Nat)))) fun X_ => reqW (X_.length ≤ sizeLine) (lcW (fun (x_1 : (T3 Nat Nat Nat)) => (retW true)) (fun (x_1 : (T3 Nat Nat Nat)) => (b2W (b2W (b2W (b2W (bindW (retW (x_1.a : Nat)) fun n : Nat => reqW (n < 2 ^ 60) (retW (repN n))) (retW (">" : Str)) (fun a b : Str => reqW (a.length + b.length ≤ sizeLine) (retW (a ++ b)))) (bindW (retW (x_1.b : Nat)) fun n : Nat => reqW (n < 2 ^ 60) (retW (repN n))) (fun a b : Str => reqW (a.length + b.length ≤ sizeLine) (retW (a ++ b)))) (retW (":" : Str)) (fun a b : Str => reqW (a.length + b.length ≤ sizeLine) (retW (a ++ b)))) (bindW (retW (x_1.c : Nat)) fun n : Nat => reqW (n < 2 ^ 60) (retW (repN n))) (fun a b : Str => reqW (a.length + b.length ≤ sizeLine) (retW (a ++ b))))) X_ [])) fun (some_2 : (Lst Str)) =>
  (bindW (b2W (retW (" " : Str)) (b2W (bindW (b2W (retW ("beat" : Str)) (retW ([] : List Str)) fun a as => retW (a :: as)) fun xs => reqW (xs.length ≤ sizeLine) (retW (⟨xs⟩ : Lst Str))) (orLW (retW (some_2 : (Lst Str))) (bindW (b2W (retW ("-" : Str)) (retW ([] : List Str)) fun a as => retW (a :: as)) fun xs => reqW (xs.length ≤ sizeLine) (retW (⟨xs⟩ : Lst Str)))) (fun xs ys : Lst Str => reqW (xs.l.length + ys.l.length ≤ sizeLine) (retW (⟨xs.l ++ ys.l⟩ : Lst Str)))) fun (a : Str) (ys : Lst Str) => reqW (jnOk a ys.l) (retW (Txt.join a ys.l))) fun r => retW (.ret r)))
theorem lroW_ex : ∃ g : (List (T3 Nat Nat Nat)) → M Str, ∀ beat_here, g beat_here = outW (lroB beat_here) := ⟨fun beat_here => outW (lroB beat_here), fun _ => rfl⟩
/-- sealed -/
def lroW : (List (T3 Nat Nat Nat)) → M Str := Classical.choose lroW_ex
theorem lroW_eq (beat_here : (List (T3 Nat Nat Nat))) : lroW beat_here = outW (lroB beat_here) := Classical.choose_spec lroW_ex beat_here
theorem lroW_fn : lroW = fun beat_here => outW (lroB beat_here) := funext fun beat_here => lroW_eq beat_here
theorem scLro : FnScope ["_law_beat_here", "_law_some", "_law_one", "_law_other", "_law_spot"] ["_law_beat_here"] (defScope sLro) := ⟨rfl, rfl, rfl, by decide +kernel, rfl, by decide +kernel, by decide +kernel⟩
theorem ok_lro (F : Fun K "_law_row" "_law_row" sLro f fd) (b : Bls2 mg) (k_b_str : mg "str" = none) : FnOk P w K mg base CX0 1 f fd ["_law_beat_here"] (spW1 K T lroW) := by
  refine F.ok scLro (fun vs H Q E h => ?_) (fun cdv A outer s H vs Q E hr h => ?_)
  · exact spW1_len h
  · refine ⟨_, (pss_cons (ps_setLc (i := 1) (own := [("_law_one", 2), ("_law_other", 3), ("_law_spot", 4)]) (g := (gTup K 3 (gCons (gName 2) (gCons (gName 3) (gCons (gName 4) gNil))))) (tt := tYes) (te := (tOp _ (tOp _ (tOp _ (tOp _ (tCB _ (tCons (tVar 2) tNil)) (tC (.str ">"))) (tCB _ (tCons (tVar 3) tNil))) (tC (.str ":"))) (tCB _ (tCons (tVar 4) tNil)))) (by rfl) scLro.nd rfl (by rfl) (by rfl) (pi_tup (pv 0)) (blkOk_by (own := [("_law_one", 2), ("_law_other", 3), ("_law_spot", 4)]) (N := ["_law_beat_here", "_law_some", "_law_one", "_law_other", "_law_spot"]) (sc := defScope sLro) (by decide +kernel)) (fun _ _ _ _ _ => (pg_tup (by rfl) (pgs_cons (pg_name (i := 2) scLro.nd rfl (Or.inl rfl)) (pgs_cons (pg_name (i := 3) scLro.nd rfl (Or.inl rfl)) (pgs_cons (pg_name (i := 4) scLro.nd rfl (Or.inl rfl)) pgs_nil))))) (fun _ _ _ _ _ => pts_nil) (fun _ _ _ _ _ => (pe_op op_add_str (pe_op op_add_str (pe_op op_add_str (pe_op op_add_str (pe_callTy call_str_int (by rfl) k_b_str (by decide +kernel) (pa_cons (pv 2) pa_nil)) pe_str) (pe_callTy call_str_int (by rfl) k_b_str (by decide +kernel) (pa_cons (pv 3) pa_nil))) pe_str) (pe_callTy call_str_int (by rfl) k_b_str (by decide +kernel) (pa_cons (pv 4) pa_nil)))))
      (pss_cons (ps_ret (pe_bm PySem.F.plainAttrs_str PySem.F.slot_str_join PySem.F.type_str_join mt_join pe_str (pa_cons (pe_op op_cat (pe_lst (pa_cons pe_str pa_nil)) (pe_orT (pv 1) (pe_one (pe_lst (pa_cons pe_str pa_nil))))) pa_nil)))
      pss_nil)), w1_run (N := ["_law_beat_here", "_law_some", "_law_one", "_law_other", "_law_spot"]) psl_own (mB := lroB) (ρ := fun (beat_here : (List (T3 Nat Nat Nat))) => [.own (enc (beat_here : (List (T3 Nat Nat Nat)))), .any, .any, .any, .any]) (ρn := fun _ => []) (ρb := fun _ => []) (C := fun _ => True) (fun _ => rfl) trivial (fun (beat_here : (List (T3 Nat Nat Nat))) => 
  (rb_asg (ρ2 := fun (some_2 : (Lst Str)) => [.own (enc (beat_here : (List (T3 Nat Nat Nat)))), .own (enc (some_2 : (Lst Str))), .any, .any, .any]) (re_lc (vs := [2, 3, 4]) (ρw := [.own (enc (beat_here : (List (T3 Nat Nat Nat)))), .any, .any, .any, .any]) (ρx := fun (x_1 : (T3 Nat Nat Nat)) => [.own (enc (beat_here : (List (T3 Nat Nat Nat)))), .any, .own (enc (x_1.a : Nat)), .own (enc (x_1.b : Nat)), .own (enc (x_1.c : Nat))]) rfl (ri_tup (re_v (i := 0) (a := (beat_here : (List (T3 Nat Nat Nat)))) rfl)) (by decide) (fun (x_1 : (T3 Nat Nat Nat)) => (rg_three (i := 2) (j := 3) (k := 4) (ρ1 := [.own (enc (beat_here : (List (T3 Nat Nat Nat)))), .any, .own (enc (x_1.a : Nat)), .any, .any]) (ρ2 := [.own (enc (beat_here : (List (T3 Nat Nat Nat)))), .any, .own (enc (x_1.a : Nat)), .own (enc (x_1.b : Nat)), .any]) (ρ' := [.own (enc (beat_here : (List (T3 Nat Nat Nat)))), .any, .own (enc (x_1.a : Nat)), .own (enc (x_1.b : Nat)), .own (enc (x_1.c : Nat))]) (show 2 < 5 by decide) (show 3 < 5 by decide) (show 4 < 5 by decide) (by decide) (by decide) (by decide) rfl rfl rfl)) (fun (x_1 : (T3 Nat Nat Nat)) => rt_yes) (fun (x_1 : (T3 Nat Nat Nat)) => (re_op ow_addS (re_op ow_addS (re_op ow_addS (re_op ow_addS (re_cb uw_strN (re_v (i := 2) (a := (x_1.a : Nat)) rfl)) (re_str ">")) (re_cb uw_strN (re_v (i := 3) (a := (x_1.b : Nat)) rfl))) (re_str ":")) (re_cb uw_strN (re_v (i := 4) (a := (x_1.c : Nat)) rfl))))) (fun (some_2 : (Lst Str)) => rg_name (i := 1) (show 1 < 5 by decide) rfl) (fun (some_2 : (Lst Str)) =>
  (rb_freeze (i := 1) (ρ2 := [.own (enc (beat_here : (List (T3 Nat Nat Nat)))), .bor (enc (some_2 : (Lst Str))), .any, .any, .any]) rfl rfl (rb_ret (re_sm1 ow_joinL (re_str " ") (re_op ow_catL (re_lst (ras_cons (re_str "beat") ras_nil)) (re_orL (re_bor (i := 1) (a := (some_2 : (Lst Str))) rfl) (re_lst (ras_cons (re_str "-") ras_nil)))))))))) (by rw [lroW_fn] at h; exact h)⟩
/-! ### _law_right -/
def riB  : M (Ctl Bool Unit Unit) :=
  (bindW (b2W (c1W (bindW (b2W (retW (2 : Nat)) (b2W (retW (3 : Nat)) (b2W (retW (5 : Nat)) (b2W (retW (8 : Nat)) (b2W (retW (64 : Nat)) (b2W (b2W (retW (2 : Nat)) (c1W (retW (63 : Nat)) fun A_1 => takeW A_1) (fun a b : Nat => retW (a + b))) (retW ([] : List Nat)) fun a as => retW (a :: as)) fun a as => retW (a :: as)) fun a as => retW (a :: as)) fun a as => retW (a :: as)) fun a as => retW (a :: as)) fun a as => retW (a :: as)) fun xs => reqW (xs.length ≤ sizeLine) (retW (⟨xs⟩ : Lst Nat))) fun A_1 => ofW A_1) (b2W (retW (1 : Nat)) (c1W (retW (60 : Nat)) fun A_1 => takeW A_1) (fun a b : Nat => retW (a + b))) fun a b => retW (a, b)) fun (p_1 : (Nat × Nat)) =>
  (b2W (c1W (retW (p_1.1 : Nat)) fun A_1 => takeW A_1) (c1W (bindW (b2W (retW (0 : Nat)) (b2W (retW (1 : Nat)) (b2W (retW (2 : Nat)) (b2W (retW (6 : Nat)) (b2W (retW (200 : Nat)) (retW ([] : List Nat)) fun a as => retW (a :: as)) fun a as => retW (a :: as)) fun a as => retW (a :: as)) fun a as => retW (a :: as)) fun a as => retW (a :: as)) fun xs => reqW (xs.length ≤ sizeLine) (retW (⟨xs⟩ : Lst Nat))) fun A_1 => ofW A_1) fun (root_2 : Nat) (size_3 : Nat) =>
  (bindW (b2W (retW (size_3 : Nat)) (retW (9 : Nat)) (fun a b : Nat => retW (decide (a < b)))) fun B_ => seqW (if B_ = true then (bindW (bindW (bindW (bindW (retW (size_3 : Nat)) fun k => reqW (k < 4611686018427387904) (retW (List.range k))) fun X_ => reqW (X_.length ≤ sizeLine) (lcW (fun (k_6 : Nat) => (retW true)) (fun (k_6 : Nat) => (c2W (retW (p_1.1 : Nat)) (retW (p_1.2 : Nat)) fun A_1 A_2 => beaW A_1 A_2)) X_ [])) fun xs : (Lst (List (T3 Nat Nat Nat))) => retW xs.l) fun (beatsmade_7 : (List (List (T3 Nat Nat Nat)))) =>
  (retW (.nxt (beatsmade_7 : (List (List (T3 Nat Nat Nat))))))) else (bindW (b2W (bindW (b2W (bindW (b2W (t3W (retW (0 : Nat)) (retW (1 : Nat)) (retW (0 : Nat))) (retW ([] : List (T3 Nat Nat Nat))) fun a as => retW (a :: as)) fun xs => reqW (xs.length ≤ sizeLine) (retW xs)) (retW ([] : List (List (T3 Nat Nat Nat)))) fun a as => retW (a :: as)) fun xs => reqW (xs.length ≤ sizeLine) (retW xs)) (mapW (fun n : Nat => (n : Int)) (retW (size_3 : Nat))) (fun (xs : List (List (T3 Nat Nat Nat))) (k : Int) => reqW (xs ≠ [] ∧ -1000 ≤ k ∧ k ≤ 1000 ∧ xs.length ≤ 1000) (retW (List.replicate k.toNat xs).flatten))) fun (beatsmade_8 : (List (List (T3 Nat Nat Nat)))) =>
  (retW (.nxt (beatsmade_8 : (List (List (T3 Nat Nat Nat)))))))) fun (s_5 : (List (List (T3 Nat Nat Nat)))) =>
  (bindW (bindW (b2W (b2W (retW (" " : Str)) (bindW (b2W (retW ("plan" : Str)) (b2W (bindW (retW (p_1.1 : Nat)) fun n : Nat => reqW (n < 2 ^ 60) (retW (repN n))) (b2W (bindW (retW (p_1.2 : Nat)) fun n : Nat => reqW (n < 2 ^ 60) (retW (repN n))) (b2W (bindW (retW (root_2 : Nat)) fun n : Nat => reqW (n < 2 ^ 60) (retW (repN n))) (retW ([] : List Str)) fun a as => retW (a :: as)) fun a as => retW (a :: as)) fun a as => retW (a :: as)) fun a as => retW (a :: as)) fun xs => reqW (xs.length ≤ sizeLine) (retW (⟨xs⟩ : Lst Str))) fun (a : Str) (ys : Lst Str) => reqW (jnOk a ys.l) (retW (Txt.join a ys.l))) (retW ([] : List Str)) fun a as => retW (a :: as)) fun xs => reqW (xs.length ≤ sizeLine) (retW (⟨xs⟩ : Lst Str))) fun (rows_9 : (Lst Str)) =>
  (bindW (bindW (retW (s_5 : (List (List (T3 Nat Nat Nat))))) fun X_ => reqW (X_.length ≤ sizeLine) (lcW (fun (beathere_10 : (List (T3 Nat Nat Nat))) => (retW true)) (fun (beathere_10 : (List (T3 Nat Nat Nat))) => (c1W (retW (beathere_10 : (List (T3 Nat Nat Nat)))) fun A_1 => pureW (lroW A_1))) X_ [])) fun (y_11 : (Lst Str)) => reqW ((rows_9 : (Lst Str)).l.length + (y_11 : (Lst Str)).l.length ≤ sizeLine)
  (bindW (b2W (retW ("
" : Str)) (retW ((⟨(rows_9 : (Lst Str)).l ++ (y_11 : (Lst Str)).l⟩ : (Lst Str)) : (Lst Str))) fun (a : Str) (ys : Lst Str) => reqW (jnOk a ys.l) (retW (Txt.join a ys.l))) fun (due_12 : Str) =>
  (bindW (b2W (c4W (retW (p_1.1 : Nat)) (retW (p_1.2 : Nat)) (retW (s_5 : (List (List (T3 Nat Nat Nat))))) (retW (root_2 : Nat)) fun A_1 A_2 A_3 A_4 => pureW (shpW A_1 A_2 A_3 A_4)) (retW (due_12 : Str)) (fun a b : Str => retW (!decide (a = b)))) fun B_ => seqW (if B_ = true then (bindW (retW false) fun r => retW (.ret r)) else (retW (.nxt (() : Unit)))) fun (s_13 : Unit) =>
  (bindW (b2W (c4W (retW (root_2 : Nat)) (retW (s_5 : (List (List (T3 Nat Nat Nat))))) (retW (p_1.1 : Nat)) (retW (p_1.2 : Nat)) fun A_1 A_2 A_3 A_4 => pureW (shpW A_3 A_4 A_2 A_1)) (retW (due_12 : Str)) (fun a b : Str => retW (!decide (a = b)))) fun B_ => seqW (if B_ = true then (bindW (retW false) fun r => retW (.ret r)) else (retW (.nxt (() : Unit)))) fun (s_14 : Unit) =>
  (bindW (orW (b2W (bindW (c1W (retW (due_12 : Str)) fun A_1 => pureW (rplW A_1)) fun xs : (T4 Nat Nat (List (List (List Nat))) Nat) => reqW (ReprOk (enc xs)) (retW (enc xs).shown)) (bindW (t4W (retW (p_1.1 : Nat)) (retW (p_1.2 : Nat)) (retW (s_5 : (List (List (T3 Nat Nat Nat))))) (retW (root_2 : Nat))) fun xs : (T4 Nat Nat (List (List (T3 Nat Nat Nat))) Nat) => reqW (ReprOk (enc xs)) (retW (enc xs).shown)) (fun a b : Str => retW (!decide (a = b)))) (b2W (c1W (retW (due_12 : Str)) fun A_1 => pureW (rplW A_1)) (c1W (retW (due_12 : Str)) fun A_1 => pureW (rplW A_1)) (fun (a : (T4 Nat Nat (List (List (List Nat))) Nat)) (b : (T4 Nat Nat (List (List (List Nat))) Nat)) => reqW (shapeOk (enc a) ∧ shapeOk (enc b)) (retW (!PyData.eqv (enc a) (enc b)))))) fun B_ => seqW (if B_ = true then (bindW (retW false) fun r => retW (.ret r)) else (retW (.nxt (() : Unit)))) fun (s_15 : Unit) =>
  (bindW (b2W (c3W (retW (p_1.1 : Nat)) (retW (p_1.2 : Nat)) (retW (s_5 : (List (List (T3 Nat Nat Nat))))) fun A_1 A_2 A_3 => pureW (shpW A_1 A_2 A_3 0)) (c4W (retW (p_1.1 : Nat)) (retW (p_1.2 : Nat)) (retW (s_5 : (List (List (T3 Nat Nat Nat))))) (retW (0 : Nat)) fun A_1 A_2 A_3 A_4 => pureW (shpW A_1 A_2 A_3 A_4)) (fun a b : Str => retW (decide (a = b)))) fun r => retW (.ret r)))))))))))
theorem riW_ex : ∃ g : M Bool, g  = outW (riB ) := ⟨outW (riB ), rfl⟩
/-- sealed -/
def riW : M Bool := Classical.choose riW_ex
theorem riW_eq  : riW  = outW (riB ) := Classical.choose_spec riW_ex 
theorem riW_fn : riW = outW (riB ) := riW_eq 
theorem scRi : FnScope ["_law_pot_here", "_law_rows", "_law_due", "_law_people", "_law_count", "_law_root", "_law_size", "_law_beats_made", "_law_beat_here", "_law_k"] ["_law_pot_here"] (defScope sRi) := ⟨rfl, rfl, rfl, by decide +kernel, rfl, by decide +kernel, by decide +kernel⟩
theorem ok_ri {f_bea f_lro f_of f_rpl f_shp f_take : Addr} {d_bea d_lro d_of d_rpl d_shp d_take : FuncData} (F : Fun K "_law_right" "_law_right" sRi f fd) (b : Bls2 mg) (c_bea : CalF P w K mg base 2 "_law_beat" f_bea d_bea ["_law_pot_here", "_law_people", "_law_count"] (spP2 K T beaW)) (c_lro : CalF P w K mg base 1 "_law_row" f_lro d_lro ["_law_beat_here"] (spW1 K T lroW)) (c_of : ∀ {α : Type} [Enc α] [Pu α], CalF P w K mg base 2 "_law_of" f_of d_of ["_law_pot_here", "_law_some"] (spP1 K T (ofW (α := α)))) (c_rpl : CalF P w K mg base 5 "read_plan" f_rpl d_rpl ["text"] (spW1 K T rplW)) (c_shp : CalS P w K mg base 2 "show_plan" f_shp d_shp ["hands", "m", "plan", "source"] (spW4 K T shpW)) (c_take : CalF P w K mg base 1 "_law_take" f_take d_take ["_law_pot_here", "_law_size"] (spP1 K T takeW)) (q_shp_d : ∃ ds, Vals [V.int 0] ds ∧ Binds K d_shp ["hands", "m", "plan", "source"] ds) (q_shp_3_0123 : KBinds K d_shp ["hands", "m", "plan", "source"] ["source"] (gN 3 [0, 1, 2, 3]) (gN 3 [0, 1, 2, 3])) (q_rpl_0_0 : KBinds K d_rpl ["text"] ["text"] (gN 0 [0]) (gN 0 [0])) (q_shp_0_2310 : KBinds K d_shp ["hands", "m", "plan", "source"] ["source", "plan", "hands", "m"] (gN 0 [2, 3, 1, 0]) (gN 0 [2, 3, 1, 0])) (k_b_str : mg "str" = none) : FnG P w K mg base 6 f fd ["_law_pot_here"] (spP0 K T riW) := by
  refine fnG_of F scRi (fun vs H Q E h => ?_) (fun cdv A outer s H vs Q E gd hr h => ?_)
  · exact spP0_len h
  · refine ⟨_, (pss_cons (ps_asg (pe_tup (pa_cons (pe_call (c_of (α := Nat)).G (hr.mono (by decide)) (by rfl) (c_of (α := Nat)).g (c_of (α := Nat)).kp (c_of (α := Nat)).b .nil pass0 (pa_cons (pv 0) (pa_cons (pe_lst (pa_cons pe_int (pa_cons pe_int (pa_cons pe_int (pa_cons pe_int (pa_cons pe_int (pa_cons (pe_op op_addN pe_int (pe_call c_take.G (hr.mono (by decide)) (by rfl) c_take.g c_take.kp c_take.b .nil pass0 (pa_cons (pv 0) (pa_cons pe_int pa_nil)))) pa_nil))))))) pa_nil))) (pa_cons (pe_op op_addN pe_int (pe_call c_take.G (hr.mono (by decide)) (by rfl) c_take.g c_take.kp c_take.b .nil pass0 (pa_cons (pv 0) (pa_cons pe_int pa_nil)))) pa_nil))) (pg_tup (by rfl) (pgs_cons (pg_name (i := 3) scRi.nd rfl (Or.inr rfl)) (pgs_cons (pg_name (i := 4) scRi.nd rfl (Or.inr rfl)) pgs_nil))))
      (pss_cons (ps_par (i := 5) (j := 6) (by rfl) scRi.nd rfl rfl (by decide) rfl rfl (pa_cons (pe_call c_take.G (hr.mono (by decide)) (by rfl) c_take.g c_take.kp c_take.b .nil pass0 (pa_cons (pv 0) (pa_cons (pv 3) pa_nil))) (pa_cons (pe_call (c_of (α := Nat)).G (hr.mono (by decide)) (by rfl) (c_of (α := Nat)).g (c_of (α := Nat)).kp (c_of (α := Nat)).b .nil pass0 (pa_cons (pv 0) (pa_cons (pe_lst (pa_cons pe_int (pa_cons pe_int (pa_cons pe_int (pa_cons pe_int (pa_cons pe_int pa_nil)))))) pa_nil))) pa_nil)) (by rfl))
      (pss_cons (ps_if (pt_cmpR op_lt (pv 6) pe_int (nomark _)) (pss_cons (ps_set (i := 7) scRi.nd rfl (.inl rfl) (pe_callTy call_tuple_of (by rfl) b.tuple (by decide +kernel) (pa_cons (pe_lc (own := [("_law_k", 9)]) (g := (gName 9)) (tt := tYes) (te := (tCall (spP2 K T beaW) [] E0 (tCons (tVar 0) (tCons (tVar 3) (tCons (tVar 4) tNil))))) (by rfl) scRi.nd (pi_range1 (by rfl) b.range (pa_cons (pv 6) pa_nil)) (blkOk_by (own := [("_law_k", 9)]) (N := ["_law_pot_here", "_law_rows", "_law_due", "_law_people", "_law_count", "_law_root", "_law_size", "_law_beats_made", "_law_beat_here", "_law_k"]) (sc := defScope sRi) (by decide +kernel)) (fun _ _ _ _ _ => (pg_name (i := 9) scRi.nd rfl (Or.inl rfl))) (fun _ _ _ _ _ => pts_nil) (fun _ _ _ _ _ => (pe_call c_bea.G (hr.mono (by decide)) (by rfl) c_bea.g c_bea.kp c_bea.b .nil pass0 (pa_cons (pv 0) (pa_cons (pv 3) (pa_cons (pv 4) pa_nil)))))) pa_nil)))
      pss_nil) (pss_cons (ps_set (i := 7) scRi.nd rfl (.inl rfl) (pe_op op_repI (pe_tup (pa_cons (pe_tup (pa_cons (pe_tup (pa_cons pe_int (pa_cons pe_int (pa_cons pe_int pa_nil)))) pa_nil)) pa_nil)) (pv 6)))
      pss_nil))
      (pss_cons (ps_set (i := 1) scRi.nd rfl (.inl rfl) (pe_lst (pa_cons (pe_bm PySem.F.plainAttrs_str PySem.F.slot_str_join PySem.F.type_str_join mt_join pe_str (pa_cons (pe_lst (pa_cons pe_str (pa_cons (pe_callTy call_str_int (by rfl) k_b_str (by decide +kernel) (pa_cons (pv 3) pa_nil)) (pa_cons (pe_callTy call_str_int (by rfl) k_b_str (by decide +kernel) (pa_cons (pv 4) pa_nil)) (pa_cons (pe_callTy call_str_int (by rfl) k_b_str (by decide +kernel) (pa_cons (pv 5) pa_nil)) pa_nil))))) pa_nil)) pa_nil)))
      (pss_cons (ps_expr (pe_bm PySem.F.plainAttrs_list PySem.F.slot_list_extend PySem.F.type_list_extend mt_extend (pv 1) (pa_cons (pe_lc (own := [("_law_beat_here", 8)]) (g := (gName 8)) (tt := tYes) (te := (tCall (spW1 K T lroW) [] E0 (tCons (tVar 8) tNil))) (by rfl) scRi.nd (pi_tup (pv 7)) (blkOk_by (own := [("_law_beat_here", 8)]) (N := ["_law_pot_here", "_law_rows", "_law_due", "_law_people", "_law_count", "_law_root", "_law_size", "_law_beats_made", "_law_beat_here", "_law_k"]) (sc := defScope sRi) (by decide +kernel)) (fun _ _ _ _ _ => (pg_name (i := 8) scRi.nd rfl (Or.inl rfl))) (fun _ _ _ _ _ => pts_nil) (fun _ _ _ _ _ => (pe_call c_lro.G (hr.mono (by decide)) (by rfl) c_lro.g c_lro.kp c_lro.b .nil pass0 (pa_cons (pv 8) pa_nil)))) pa_nil)))
      (pss_cons (ps_set (i := 2) scRi.nd rfl (.inl rfl) (pe_bm PySem.F.plainAttrs_str PySem.F.slot_str_join PySem.F.type_str_join mt_join pe_str (pa_cons (pv 1) pa_nil)))
      (pss_cons (ps_if (pt_cmpR op_ne (pe_callK c_shp.G (hr.mono (by decide)) (by rfl) c_shp.g c_shp.kp q_shp_3_0123 pass0 (pa_cons (pv 3) (pa_cons (pv 4) (pa_cons (pv 7) pa_nil))) (pk_cons (pv 5) pk_nil)) (pv 2) (nomark _)) (pss_cons (ps_ret pe_bl)
      pss_nil) pss_nil)
      (pss_cons (ps_if (pt_cmpR op_ne (pe_callK0 c_shp.G (hr.mono (by decide)) (by rfl) c_shp.g c_shp.kp q_shp_0_2310 pass0 (pk_cons (pv 5) (pk_cons (pv 7) (pk_cons (pv 3) (pk_cons (pv 4) pk_nil))))) (pv 2) (nomark _)) (pss_cons (ps_ret pe_bl)
      pss_nil) pss_nil)
      (pss_cons (ps_if (PW.pt (pw_or (pt_cmpR op_ne (pe_callB (call_reprA gd hr.units) (by rfl) b.repr (by decide +kernel) (pa_cons (pe_call c_rpl.G (hr.mono (by decide)) (by rfl) c_rpl.g c_rpl.kp c_rpl.b .nil pass0 (pa_cons (pv 2) pa_nil)) pa_nil)) (pe_callB (call_reprA gd hr.units) (by rfl) b.repr (by decide +kernel) (pa_cons (pe_tup (pa_cons (pv 3) (pa_cons (pv 4) (pa_cons (pv 7) (pa_cons (pv 5) pa_nil))))) pa_nil)) (nomark _)) (pw_or1 (pt_cmpR (op_neD hr.units) (pe_callK0 c_rpl.G (hr.mono (by decide)) (by rfl) c_rpl.g c_rpl.kp q_rpl_0_0 pass0 (pk_cons (pv 2) pk_nil)) (pe_call c_rpl.G (hr.mono (by decide)) (by rfl) c_rpl.g c_rpl.kp c_rpl.b .nil pass0 (pa_cons (pv 2) pa_nil)) (nomark _))))) (pss_cons (ps_ret pe_bl)
      pss_nil) pss_nil)
      (pss_cons (ps_ret (pe_cmpR op_eq (pe_call c_shp.G (hr.mono (by decide)) (by rfl) c_shp.g c_shp.kp q_shp_d.choose_spec.2 q_shp_d.choose_spec.1 pass0 (pa_cons (pv 3) (pa_cons (pv 4) (pa_cons (pv 7) pa_nil)))) (pe_callK c_shp.G (hr.mono (by decide)) (by rfl) c_shp.g c_shp.kp q_shp_3_0123 pass0 (pa_cons (pv 3) (pa_cons (pv 4) (pa_cons (pv 7) pa_nil))) (pk_cons pe_int pk_nil)) (nomark _)))
      pss_nil)))))))))), p0_run (N := ["_law_pot_here", "_law_rows", "_law_due", "_law_people", "_law_count", "_law_root", "_law_size", "_law_beats_made", "_law_beat_here", "_law_k"])  (mB := riB) (ρ := [.pot, .any, .any, .any, .any, .any, .any, .any, .any, .any]) (ρn := fun _ => []) (ρb := fun _ => []) (C := fun _ => True) (rfl) (fun _ => trivial) (
  (rb_asg (ρ2 := fun (p_1 : (Nat × Nat)) => [.pot, .any, .any, .own (enc (p_1.1 : Nat)), .own (enc (p_1.2 : Nat)), .any, .any, .any, .any, .any]) (re_pair (re_callp1 (ip := 0) rfl (re_lst (ras_cons (re_nat 2) (ras_cons (re_nat 3) (ras_cons (re_nat 5) (ras_cons (re_nat 8) (ras_cons (re_nat 64) (ras_cons (re_op ow_addN (re_nat 2) (re_callp1 (ip := 0) rfl (re_nat 63))) ras_nil)))))))) (re_op ow_addN (re_nat 1) (re_callp1 (ip := 0) rfl (re_nat 60)))) (fun (p_1 : (Nat × Nat)) => (rg_two (i := 3) (j := 4) (ρ1 := [.pot, .any, .any, .own (enc (p_1.1 : Nat)), .any, .any, .any, .any, .any, .any]) (ρ' := [.pot, .any, .any, .own (enc (p_1.1 : Nat)), .own (enc (p_1.2 : Nat)), .any, .any, .any, .any, .any]) (show 3 < 10 by decide) (show 4 < 10 by decide) (by decide) rfl rfl)) (fun (p_1 : (Nat × Nat)) =>
  (rb_par (ρ2 := fun (root_2 : Nat) (size_3 : Nat) => [.pot, .any, .any, .own (enc (p_1.1 : Nat)), .own (enc (p_1.2 : Nat)), .own (enc (root_2 : Nat)), .own (enc (size_3 : Nat)), .any, .any, .any]) (re_callp1 (ip := 0) rfl (re_v (i := 3) (a := (p_1.1 : Nat)) rfl)) (re_callp1 (ip := 0) rfl (re_lst (ras_cons (re_nat 0) (ras_cons (re_nat 1) (ras_cons (re_nat 2) (ras_cons (re_nat 6) (ras_cons (re_nat 200) ras_nil))))))) (show 5 < 10 by decide) (show 6 < 10 by decide) (by decide) (fun _ _ => rfl) (fun (root_2 : Nat) (size_3 : Nat) =>
  (rb_if (ρ1 := fun (s_5 : (List (List (T3 Nat Nat Nat)))) => [.pot, .any, .any, .own (enc (p_1.1 : Nat)), .own (enc (p_1.2 : Nat)), .own (enc (root_2 : Nat)), .own (enc (size_3 : Nat)), .own (enc (s_5 : (List (List (T3 Nat Nat Nat))))), .any, .any]) (rt_test (re_op ow_ltN (re_v (i := 6) (a := (size_3 : Nat)) rfl) (re_nat 9)))
  (rb_asg (ρ2 := fun (beatsmade_7 : (List (List (T3 Nat Nat Nat)))) => [.pot, .any, .any, .own (enc (p_1.1 : Nat)), .own (enc (p_1.2 : Nat)), .own (enc (root_2 : Nat)), .own (enc (size_3 : Nat)), .own (enc (beatsmade_7 : (List (List (T3 Nat Nat Nat))))), .any, .any]) (re_cb uw_tupL (re_lc (vs := [9]) (ρw := [.pot, .any, .any, .own (enc (p_1.1 : Nat)), .own (enc (p_1.2 : Nat)), .own (enc (root_2 : Nat)), .own (enc (size_3 : Nat)), .any, .any, .any]) (ρx := fun (k_6 : Nat) => [.pot, .any, .any, .own (enc (p_1.1 : Nat)), .own (enc (p_1.2 : Nat)), .own (enc (root_2 : Nat)), .own (enc (size_3 : Nat)), .any, .any, .own (enc (k_6 : Nat))]) rfl (ri_range (re_v (i := 6) (a := (size_3 : Nat)) rfl)) (by decide) (fun (k_6 : Nat) => (rg_name (i := 9) (ρ' := [.pot, .any, .any, .own (enc (p_1.1 : Nat)), .own (enc (p_1.2 : Nat)), .own (enc (root_2 : Nat)), .own (enc (size_3 : Nat)), .any, .any, .own (enc (k_6 : Nat))]) (show 9 < 10 by decide) rfl)) (fun (k_6 : Nat) => rt_yes) (fun (k_6 : Nat) => (re_callp2 (ip := 0) rfl (re_v (i := 3) (a := (p_1.1 : Nat)) rfl) (re_v (i := 4) (a := (p_1.2 : Nat)) rfl))))) (fun (beatsmade_7 : (List (List (T3 Nat Nat Nat)))) => rg_name (i := 7) (show 7 < 10 by decide) rfl) (fun (beatsmade_7 : (List (List (T3 Nat Nat Nat)))) =>
  (rb_end (s := (beatsmade_7 : (List (List (T3 Nat Nat Nat))))) ⟨.eq _, ⟨.any _, ⟨.any _, ⟨.eq _, ⟨.eq _, ⟨.eq _, ⟨.eq _, ⟨.eq _, ⟨.any _, ⟨.any _, trivial⟩⟩⟩⟩⟩⟩⟩⟩⟩⟩)))
  (rb_asg (ρ2 := fun (beatsmade_8 : (List (List (T3 Nat Nat Nat)))) => [.pot, .any, .any, .own (enc (p_1.1 : Nat)), .own (enc (p_1.2 : Nat)), .own (enc (root_2 : Nat)), .own (enc (size_3 : Nat)), .own (enc (beatsmade_8 : (List (List (T3 Nat Nat Nat))))), .any, .any]) (re_op ow_repT (re_tupL (ras_cons (re_tupL (ras_cons (re_t3 (re_nat 0) (re_nat 1) (re_nat 0)) ras_nil)) ras_nil)) (re_ofN (re_v (i := 6) (a := (size_3 : Nat)) rfl))) (fun (beatsmade_8 : (List (List (T3 Nat Nat Nat)))) => rg_name (i := 7) (show 7 < 10 by decide) rfl) (fun (beatsmade_8 : (List (List (T3 Nat Nat Nat)))) =>
  (rb_end (s := (beatsmade_8 : (List (List (T3 Nat Nat Nat))))) ⟨.eq _, ⟨.any _, ⟨.any _, ⟨.eq _, ⟨.eq _, ⟨.eq _, ⟨.eq _, ⟨.eq _, ⟨.any _, ⟨.any _, trivial⟩⟩⟩⟩⟩⟩⟩⟩⟩⟩))) (fun (s_5 : (List (List (T3 Nat Nat Nat)))) =>
  (rb_asg (ρ2 := fun (rows_9 : (Lst Str)) => [.pot, .own (enc (rows_9 : (Lst Str))), .any, .own (enc (p_1.1 : Nat)), .own (enc (p_1.2 : Nat)), .own (enc (root_2 : Nat)), .own (enc (size_3 : Nat)), .own (enc (s_5 : (List (List (T3 Nat Nat Nat))))), .any, .any]) (re_lst (ras_cons (re_sm1 ow_joinL (re_str " ") (re_lst (ras_cons (re_str "plan") (ras_cons (re_cb uw_strN (re_v (i := 3) (a := (p_1.1 : Nat)) rfl)) (ras_cons (re_cb uw_strN (re_v (i := 4) (a := (p_1.2 : Nat)) rfl)) (ras_cons (re_cb uw_strN (re_v (i := 5) (a := (root_2 : Nat)) rfl)) ras_nil)))))) ras_nil)) (fun (rows_9 : (Lst Str)) => rg_name (i := 1) (show 1 < 10 by decide) rfl) (fun (rows_9 : (Lst Str)) =>
  (rb_extend (i := 1) (xs := (rows_9 : (Lst Str))) (ρ2 := fun (y_11 : (Lst Str)) => [.pot, .own (enc ((⟨(rows_9 : (Lst Str)).l ++ (y_11 : (Lst Str)).l⟩ : (Lst Str)) : (Lst Str))), .any, .own (enc (p_1.1 : Nat)), .own (enc (p_1.2 : Nat)), .own (enc (root_2 : Nat)), .own (enc (size_3 : Nat)), .own (enc (s_5 : (List (List (T3 Nat Nat Nat))))), .any, .any]) rfl (re_lc (vs := [8]) (ρw := [.pot, .own (enc (rows_9 : (Lst Str))), .any, .own (enc (p_1.1 : Nat)), .own (enc (p_1.2 : Nat)), .own (enc (root_2 : Nat)), .own (enc (size_3 : Nat)), .own (enc (s_5 : (List (List (T3 Nat Nat Nat))))), .any, .any]) (ρx := fun (beathere_10 : (List (T3 Nat Nat Nat))) => [.pot, .own (enc (rows_9 : (Lst Str))), .any, .own (enc (p_1.1 : Nat)), .own (enc (p_1.2 : Nat)), .own (enc (root_2 : Nat)), .own (enc (size_3 : Nat)), .own (enc (s_5 : (List (List (T3 Nat Nat Nat))))), .own (enc (beathere_10 : (List (T3 Nat Nat Nat)))), .any]) rfl (ri_tup (re_v (i := 7) (a := (s_5 : (List (List (T3 Nat Nat Nat))))) rfl)) (by decide) (fun (beathere_10 : (List (T3 Nat Nat Nat))) => (rg_name (i := 8) (ρ' := [.pot, .own (enc (rows_9 : (Lst Str))), .any, .own (enc (p_1.1 : Nat)), .own (enc (p_1.2 : Nat)), .own (enc (root_2 : Nat)), .own (enc (size_3 : Nat)), .own (enc (s_5 : (List (List (T3 Nat Nat Nat))))), .own (enc (beathere_10 : (List (T3 Nat Nat Nat)))), .any]) (show 8 < 10 by decide) rfl)) (fun (beathere_10 : (List (T3 Nat Nat Nat))) => rt_yes) (fun (beathere_10 : (List (T3 Nat Nat Nat))) => (re_call1 (re_v (i := 8) (a := (beathere_10 : (List (T3 Nat Nat Nat)))) rfl)))) (fun _ => rfl) (fun (y_11 : (Lst Str)) =>
  (rb_freeze (i := 1) (ρ2 := [.pot, .bor (enc ((⟨(rows_9 : (Lst Str)).l ++ (y_11 : (Lst Str)).l⟩ : (Lst Str)) : (Lst Str))), .any, .own (enc (p_1.1 : Nat)), .own (enc (p_1.2 : Nat)), .own (enc (root_2 : Nat)), .own (enc (size_3 : Nat)), .own (enc (s_5 : (List (List (T3 Nat Nat Nat))))), .any, .any]) rfl rfl (rb_asg (ρ2 := fun (due_12 : Str) => [.pot, .bor (enc ((⟨(rows_9 : (Lst Str)).l ++ (y_11 : (Lst Str)).l⟩ : (Lst Str)) : (Lst Str))), .own (enc (due_12 : Str)), .own (enc (p_1.1 : Nat)), .own (enc (p_1.2 : Nat)), .own (enc (root_2 : Nat)), .own (enc (size_3 : Nat)), .own (enc (s_5 : (List (List (T3 Nat Nat Nat))))), .any, .any]) (re_sm1 ow_joinL (re_str "
") (re_bor (i := 1) (a := ((⟨(rows_9 : (Lst Str)).l ++ (y_11 : (Lst Str)).l⟩ : (Lst Str)) : (Lst Str))) rfl)) (fun (due_12 : Str) => rg_name (i := 2) (show 2 < 10 by decide) rfl) (fun (due_12 : Str) =>
  (rb_if (ρ1 := fun (s_13 : Unit) => [.pot, .bor (enc ((⟨(rows_9 : (Lst Str)).l ++ (y_11 : (Lst Str)).l⟩ : (Lst Str)) : (Lst Str))), .own (enc (due_12 : Str)), .own (enc (p_1.1 : Nat)), .own (enc (p_1.2 : Nat)), .own (enc (root_2 : Nat)), .own (enc (size_3 : Nat)), .own (enc (s_5 : (List (List (T3 Nat Nat Nat))))), .any, .any]) (rt_test (re_op ow_neS (rk_shp_3_0123 (re_v (i := 3) (a := (p_1.1 : Nat)) rfl) (re_v (i := 4) (a := (p_1.2 : Nat)) rfl) (re_v (i := 7) (a := (s_5 : (List (List (T3 Nat Nat Nat))))) rfl) (re_v (i := 5) (a := (root_2 : Nat)) rfl)) (re_v (i := 2) (a := (due_12 : Str)) rfl)))
  (rb_ret (re_bool false))
  (rb_end (s := (() : Unit)) ⟨.eq _, ⟨.eq _, ⟨.eq _, ⟨.eq _, ⟨.eq _, ⟨.eq _, ⟨.eq _, ⟨.eq _, ⟨.any _, ⟨.any _, trivial⟩⟩⟩⟩⟩⟩⟩⟩⟩⟩) (fun (s_13 : Unit) =>
  (rb_if (ρ1 := fun (s_14 : Unit) => [.pot, .bor (enc ((⟨(rows_9 : (Lst Str)).l ++ (y_11 : (Lst Str)).l⟩ : (Lst Str)) : (Lst Str))), .own (enc (due_12 : Str)), .own (enc (p_1.1 : Nat)), .own (enc (p_1.2 : Nat)), .own (enc (root_2 : Nat)), .own (enc (size_3 : Nat)), .own (enc (s_5 : (List (List (T3 Nat Nat Nat))))), .any, .any]) (rt_test (re_op ow_neS (rk_shp_0_2310 (re_v (i := 5) (a := (root_2 : Nat)) rfl) (re_v (i := 7) (a := (s_5 : (List (List (T3 Nat Nat Nat))))) rfl) (re_v (i := 3) (a := (p_1.1 : Nat)) rfl) (re_v (i := 4) (a := (p_1.2 : Nat)) rfl)) (re_v (i := 2) (a := (due_12 : Str)) rfl)))
  (rb_ret (re_bool false))
  (rb_end (s := (() : Unit)) ⟨.eq _, ⟨.eq _, ⟨.eq _, ⟨.eq _, ⟨.eq _, ⟨.eq _, ⟨.eq _, ⟨.eq _, ⟨.any _, ⟨.any _, trivial⟩⟩⟩⟩⟩⟩⟩⟩⟩⟩) (fun (s_14 : Unit) =>
  (rb_if (ρ1 := fun (s_15 : Unit) => [.pot, .bor (enc ((⟨(rows_9 : (Lst Str)).l ++ (y_11 : (Lst Str)).l⟩ : (Lst Str)) : (Lst Str))), .own (enc (due_12 : Str)), .own (enc (p_1.1 : Nat)), .own (enc (p_1.2 : Nat)), .own (enc (root_2 : Nat)), .own (enc (size_3 : Nat)), .own (enc (s_5 : (List (List (T3 Nat Nat Nat))))), .any, .any]) (rt_or (rt_test (re_op ow_neS (re_cb uw_reprQ (re_call1 (re_v (i := 2) (a := (due_12 : Str)) rfl))) (re_cb uw_reprQ (re_t4 (re_v (i := 3) (a := (p_1.1 : Nat)) rfl) (re_v (i := 4) (a := (p_1.2 : Nat)) rfl) (re_v (i := 7) (a := (s_5 : (List (List (T3 Nat Nat Nat))))) rfl) (re_v (i := 5) (a := (root_2 : Nat)) rfl))))) (rt_test (re_op ow_neD (rk_rpl_0_0 (re_v (i := 2) (a := (due_12 : Str)) rfl)) (re_call1 (re_v (i := 2) (a := (due_12 : Str)) rfl)))))
  (rb_ret (re_bool false))
  (rb_end (s := (() : Unit)) ⟨.eq _, ⟨.eq _, ⟨.eq _, ⟨.eq _, ⟨.eq _, ⟨.eq _, ⟨.eq _, ⟨.eq _, ⟨.any _, ⟨.any _, trivial⟩⟩⟩⟩⟩⟩⟩⟩⟩⟩) (fun (s_15 : Unit) =>
  (rb_ret (re_op ow_eqS (re_calld3 (re_v (i := 3) (a := (p_1.1 : Nat)) rfl) (re_v (i := 4) (a := (p_1.2 : Nat)) rfl) (re_v (i := 7) (a := (s_5 : (List (List (T3 Nat Nat Nat))))) rfl)) (rk_shp_3_0123 (re_v (i := 3) (a := (p_1.1 : Nat)) rfl) (re_v (i := 4) (a := (p_1.2 : Nat)) rfl) (re_v (i := 7) (a := (s_5 : (List (List (T3 Nat Nat Nat))))) rfl) (re_nat 0)))))))))))))))))))))))) (by rw [riW_fn] at h; exact h)⟩
/-! ### law -/
def lawB (ns : List Int) : M (Ctl Bool Unit Unit) :=
  (bindW (bindW (b2W (retW (1 : Nat)) (b2W (retW (3 : Nat)) (retW ns.length) (fun a b : Nat => retW (min a b))) (fun a b : Nat => retW (max a b))) fun k => reqW (k < 4611686018427387904) (retW (List.range k))) fun X_ => seqW (forW (fun (k_2 : Nat) (s_1 : Unit) =>
  (potW (ns.length ≤ 63 ∧ k_2 ≤ 100) (bindW (mapW (fun b => !b) (bindW (bindW (bindW (retW (3 : Nat)) fun k => reqW (k < 4611686018427387904) (retW (List.range k))) fun X_ => reqW (X_.length ≤ sizeLine) (lcW (fun (turn_3 : Nat) => (retW true)) (fun (turn_3 : Nat) => riW) X_ [])) fun xs : Lst Bool => retW (xs.l.all id))) fun B_ => seqW (if B_ = true then (bindW (retW false) fun r => retW (.ret r)) else (retW (.nxt (() : Unit)))) fun (s_4 : Unit) =>
  (retW (.nxt (() : Unit)))))) X_ (() : Unit)) fun (s_1 : Unit) =>
  (bindW (b2W (c1W (retW ("plan 2 1 1" : Str)) fun A_1 => pureW (rplW A_1)) (t4W (retW (2 : Nat)) (retW (1 : Nat)) (bindW (retW ([] : (List (List (List Nat))))) fun xs => reqW (xs.length ≤ sizeLine) (retW xs)) (retW (1 : Nat))) (fun (a : (T4 Nat Nat (List (List (List Nat))) Nat)) (b : (T4 Nat Nat (List (List (List Nat))) Nat)) => reqW (shapeOk (enc a) ∧ shapeOk (enc b)) (retW (PyData.eqv (enc a) (enc b))))) fun r => retW (.ret r)))
theorem scLaw : FnScope ["_law_script", "_law_k", "_law_pot_here", "_law_turn"] ["_law_script"] (defScope sLaw) := ⟨rfl, rfl, rfl, by decide +kernel, rfl, by decide +kernel, by decide +kernel⟩
theorem ok_law {f_ri f_rpl : Addr} {d_ri d_rpl : FuncData} {f_urn : Addr} {d_urn : FuncData} (F : Fun K "law" "law" sLaw f fd) (b : Bls2 mg) (c_ri : CalG P w K mg base 6 "_law_right" f_ri d_ri ["_law_pot_here"] (spP0 K ([] : List (Addr × Str)) riW)) (c_rpl : CalF P w K mg base 5 "read_plan" f_rpl d_rpl ["text"] (spW1 K ([] : List (Addr × Str)) rplW)) (c_urn : CalF P w K mg base 1 "_law_pot" f_urn d_urn ["_law_script", "_law_k"] (spPot K)) (win : ∀ ns : List Int, ns.length ≤ 63 → outW (lawB ns) 0 fun r _ => r = true) : FnG P w K mg base 7 f fd ["_law_script"] (spLaw K) := by
  refine fnG_of F scLaw (fun vs H Q E h => ?_) (fun cdv A outer s H vs Q E gd hr h => ?_)
  · exact spLaw_len h
  · refine ⟨_, (pss_cons (ps_for PassesOwn.never rfl (pi_range1 (by rfl) b.range (pa_cons (pe_callB (call_max2 rfl) (by rfl) b.max (by decide +kernel) (pa_cons pe_int (pa_cons (pe_callB (call_min2 rfl) (by rfl) b.min (by decide +kernel) (pa_cons pe_int (pa_cons (pe_callB call_len_seq (by rfl) b.len PySem.boot_len (pa_cons (pv 0) pa_nil)) pa_nil))) pa_nil))) pa_nil)) (pg_name (i := 1) scLaw.nd rfl (Or.inl rfl))
      (pss_cons (ps_set (i := 2) scLaw.nd rfl (.inr rfl) (pe_call c_urn.G (hr.mono (by decide)) (by rfl) c_urn.g c_urn.kp c_urn.b .nil pass0 (pa_cons (pv 0) (pa_cons (pv 1) pa_nil))))
      (pss_cons (ps_if (pt_not (pt_val (pe_callB (cr_all rfl) (by rfl) b.all (by decide +kernel) (pa_cons (pe_lc (own := [("_law_turn", 3)]) (g := (gName 3)) (tt := tYes) (te := (tCall (spP0 K ([] : List (Addr × Str)) riW) [] E0 (tCons (tVar 2) tNil))) (by rfl) scLaw.nd (pi_range1 (by rfl) b.range (pa_cons pe_int pa_nil)) (blkOk_by (own := [("_law_turn", 3)]) (N := ["_law_script", "_law_k", "_law_pot_here", "_law_turn"]) (sc := defScope sLaw) (by decide +kernel)) (fun _ _ _ _ _ => (pg_name (i := 3) scLaw.nd rfl (Or.inl rfl))) (fun _ _ _ _ _ => pts_nil) (fun _ _ _ _ _ => (pe_callG (E := E0) c_ri.G gd (hr.mono (by decide)) (by rfl) c_ri.g c_ri.kp c_ri.b .nil (pa_cons (pv 2) pa_nil)))) pa_nil)))) (pss_cons (ps_ret pe_bl)
      pss_nil) pss_nil)
      pss_nil)))
      (pss_cons (ps_ret (pe_cmpR (op_eqD hr.units) (pe_call c_rpl.G (hr.mono (by decide)) (by rfl) c_rpl.g c_rpl.kp c_rpl.b .nil pass0 (pa_cons pe_str pa_nil)) (pe_tup (pa_cons pe_int (pa_cons pe_int (pa_cons (pe_tup pa_nil) (pa_cons pe_int pa_nil))))) (nomark _)))
      pss_nil)), law_run (T := []) (N := ["_law_script", "_law_k", "_law_pot_here", "_law_turn"]) (mB := lawB) (ρ := fun ns => [.scr ns, .any, .any, .any]) (ρn := fun _ => []) (ρb := fun _ => []) (C := fun po => po = none) (fun _ => rfl) rfl rfl (fun ns =>
  (rb_for (s0 := (() : Unit)) (ρl := fun (s_1 : Unit) => [.scr ns, .any, .any, .any]) (ρx := fun (k_2 : Nat) (s_1 : Unit) => [.scr ns, .own (enc (k_2 : Nat)), .any, .any]) (ri_range (re_cb2 ow_max (re_nat 1) (re_cb2 ow_min (re_nat 3) (re_lenS (i := 0) (ns := ns) rfl)))) ⟨.eq _, ⟨.any _, ⟨.any _, ⟨.any _, trivial⟩⟩⟩⟩ (fun (k_2 : Nat) (s_1 : Unit) => (rg_name (i := 1) (ρ' := [.scr ns, .own (enc (k_2 : Nat)), .any, .any]) (show 1 < 4 by decide) rfl)) (fun (k_2 : Nat) (s_1 : Unit) =>
  (rb_newpot (i := 2) (ρ2 := [.scr ns, .own (enc (k_2 : Nat)), .pot, .any]) (fun Bs φ σ H n st hk Q q => urn_pot st rfl (i2 := 1) rfl hk q) (show 2 < 4 by decide) trivial rfl (rb_if (ρ1 := fun (s_4 : Unit) => [.scr ns, .own (enc (k_2 : Nat)), .pot, .any]) (rt_not (rt_val (re_cb uw_all (re_lc (vs := [3]) (ρw := [.scr ns, .own (enc (k_2 : Nat)), .pot, .any]) (ρx := fun (turn_3 : Nat) => [.scr ns, .own (enc (k_2 : Nat)), .pot, .own (enc (turn_3 : Nat))]) rfl (ri_range (re_nat 3)) (by decide) (fun (turn_3 : Nat) => (rg_name (i := 3) (ρ' := [.scr ns, .own (enc (k_2 : Nat)), .pot, .own (enc (turn_3 : Nat))]) (show 3 < 4 by decide) rfl)) (fun (turn_3 : Nat) => rt_yes) (fun (turn_3 : Nat) => (re_callp0 (ip := 2) rfl ))))))
  (rb_ret (re_bool false))
  (rb_end (s := (() : Unit)) ⟨.eq _, ⟨.eq _, ⟨.eq _, ⟨.any _, trivial⟩⟩⟩⟩) (fun (s_4 : Unit) =>
  (rb_end (s := (() : Unit)) ⟨.eq _, ⟨.any _, ⟨.any _, ⟨.any _, trivial⟩⟩⟩⟩))) (fun _ => trivial) (fun _ => trivial))) (fun (s_1 : Unit) =>
  (rb_ret (re_op ow_eqD (re_call1 (re_str "plan 2 1 1")) (re_t4 (re_nat 2) (re_nat 1) (re_tupL (α := (List (List Nat))) ras_nil) (re_nat 1))))))) h win⟩
end
end Bf
namespace Bf
open PySem PySem.Spec PyProof.Rows L2 LamX NdefX
/-! ## texts of numbers -/
instance : NoNone Str := ⟨fun _ => rfl, fun _ => rfl⟩
instance : Eqv Str := ⟨fun a b => by
  show (a == b) = true ↔ a = b
  exact beq_iff_eq⟩
theorem tl_rep (n : Nat) : TL.tl (repN n) = TL.numL n := TL.tl_num n
theorem rep_free {n s : Nat} (h : s < 48 ∨ 57 < s) : s ∉ TL.tl (repN n) := by
  rw [tl_rep]
  exact TL.numL_free h
theorem rep_len {n k : Nat} (hk : 0 < k) (h : n < 10 ^ k) : (repN n).length ≤ k := by
  rw [TL.len_tl, tl_rep]
  exact TL.numL_len hk h
theorem len_app (a b : Str) : (a ++ b).length = a.length + b.length := by
  rw [TL.len_tl, TL.tl_append, List.length_append, ← TL.len_tl, ← TL.len_tl]
theorem app_assoc (a b c : Str) : a ++ b ++ c = a ++ (b ++ c) := TL.ext_tl (by simp [TL.tl_append])
theorem rep_asc (n : Nat) : Txt.isascii (repN n) = true := by
  show (repN n).cps.all (· < 128) = true
  rw [← Array.all_toList, List.all_eq_true]
  intro c hc
  have hc : c ∈ TL.tl (repN n) := hc
  rw [tl_rep] at hc
  have := TL.numL_digits n c hc
  exact decide_eq_true (by omega)
theorem rep_dig (n : Nat) : Txt.isdigit (repN n) = true := by
  have hne : (repN n).length > 0 := by
    rw [TL.len_tl, tl_rep]
    exact List.length_pos_iff.mpr (TL.numL_ne n)
  show (decide ((repN n).length > 0) && (repN n).cps.all Unicode.isDigit) = true
  rw [decide_eq_true hne, Bool.true_and, ← Array.all_toList, List.all_eq_true]
  intro c hc
  have hc : c ∈ TL.tl (repN n) := hc
  rw [tl_rep] at hc
  have h := TL.numL_digits n c hc
  have k : ∀ n : _root_.Fin 58, 48 ≤ n.val → Unicode.isDigit n.val = true := by decide +kernel
  exact k ⟨c, by omega⟩ h.1
theorem num_head : ∀ (k n : Nat), n ≤ k → 1 ≤ n → ∃ c r, TL.numL n = c :: r ∧ c ≠ 48
  | 0, n, h, h1 => by omega
  | k + 1, n, h, h1 => by
    by_cases h10 : n < 10
    · rw [TL.numL_lt h10]
      exact ⟨_, _, rfl, by omega⟩
    · rw [TL.numL_step (by omega)]
      obtain ⟨c, r, e, hc⟩ := num_head k (n / 10) (by omega) (by omega)
      rw [e]
      exact ⟨c, _, rfl, hc⟩
theorem nz_start {n : Nat} (h : 1 ≤ n) : Txt.startswith (repN n) "0" = false := by
  cases e : Txt.startswith (repN n) "0" with
  | false => rfl
  | true =>
    obtain ⟨c, r, en, hc⟩ := num_head n n (Nat.le_refl _) h
    have a : StrLaws.At (repN n) "0" (repN n).length 0 := by
      unfold Txt.startswith at e
      have := Bool.and_eq_true_iff.mp e
      exact ⟨of_decide_eq_true this.1, this.2⟩
    have a := (TL.at_iff (y := ("0" : Str)) (by decide +kernel) 0).mp a
    rw [List.drop_zero, tl_rep, en] at a
    have z : TL.tl ("0" : Str) = [48] := by decide +kernel
    rw [z] at a
    rw [TL.pre_of_head (s := 48) [] r hc] at a
    cases a
theorem nin_w {n c : Nat} {P : Option Nat → Nat → Prop} (hn : n < 10 ^ 9) (p : P (some n) c) : ninW (repN n) c P := by
  rw [ninW_eq]
  have h24 : sizeLine = 16777216 := rfl
  have hl : (repN n).length ≤ 9 := rep_len (by decide) hn
  refine or_b (x := false) (y := false) (fun Q z => ?_) (fun _ Q z => ?_) ?_
  · show Q (!Txt.isascii (repN n)) c
    rw [rep_asc]
    exact z
  · refine or_w (x := false) (y := false) (fun Q z => ?_) (fun _ Q z => ?_) z
    · show Q (!Txt.isdigit (repN n)) c
      rw [rep_dig]
      exact z
    · refine ⟨by omega, ?_⟩
      show Q (decide (9 < (repN n).length)) c
      rw [decide_eq_false (by omega)]
      exact z
  refine seq_skip (c := false || false) rfl ?_
  have fin : (bindW (mapW some (bindW (retW (repN n : Str)) fun (a : Str) n_ P_ => ∃ k_ : Nat, PySem.intText? a = some (k_ : Int) ∧ a.length ≤ 640 ∧ P_ k_ n_)) fun r => retW (.ret r) : M (Ctl (Option Nat) Unit Unit)) c (fun r n' => match r with | .ret a => P a n' | _ => False) := by
    refine ⟨n, ?_, by omega, p⟩
    exact TL.int_num (by
      have := TL.numL_len (by decide) hn
      omega)
  by_cases hz : n = 0
  · subst hz
    refine and_b (x := true) (y := false) (fun Q z => z) (fun _ Q z => ?_) ?_
    · show Q (!decide (repN 0 = "0")) c
      have : repN 0 = "0" := by decide +kernel
      rw [decide_eq_true this]
      exact z
    · exact seq_skip (c := true && false) rfl fin
  · refine and_b (x := false) (y := false) (fun Q z => ?_) (fun h => nomatch h) ?_
    · show Q (Txt.startswith (repN n) "0") c
      rw [nz_start (by omega)]
      exact z
    · exact seq_skip (c := false && false) rfl fin
/-! ## numbers of words -/
theorem nis_w {ns : List Nat} {c : Nat} {P : Option (List Nat) → Nat → Prop} (hl : ns.length ≤ 1000) (hn : ∀ n ∈ ns, n < 10 ^ 9) (p : P (some ns) c) : nisW ⟨ns.map repN⟩ c P := by
  rw [nisW_eq]
  have h24 : sizeLine = 16777216 := rfl
  refine ⟨by rw [List.length_map]; omega, lcW_inv (fun i acc n' => n' = c ∧ acc = (ns.take i).map some) ⟨rfl, rfl⟩ ?_ ?_⟩
  · rintro i a acc n' e ⟨rfl, rfl⟩ Q q
    rw [List.getElem?_map] at e
    obtain ⟨n, en, rfl⟩ := Option.map_eq_some_iff.mp e
    refine nin_w (hn n (List.mem_of_getElem? en)) (q _ _ ⟨rfl, ?_⟩)
    rw [List.take_add_one, en, List.map_append]
    rfl
  · rintro acc n' ⟨rfl, rfl⟩
    rw [List.length_map, List.take_length]
    have hnm : ((none : Option Nat) ∈ ns.map some) = False := eq_false fun h => by
      obtain ⟨_, _, h⟩ := List.mem_map.mp h
      cases h
    show (if decide ((none : Option Nat) ∈ ns.map some) = true then (retW (none : Option (List Nat))) else (mapW some (fun n_ P_ => (retW (ns.map some : List (Option Nat))) n_ fun xs_ n1_ => ∃ ns_ : List Nat, xs_ = ns_.map some ∧ P_ ns_ n1_))) _ _
    rw [if_neg (by simp)]
    exact ⟨ns, rfl, p⟩
theorem nit_w {ns : List Nat} {c : Nat} {P : Option (List Nat) → Nat → Prop} (hl : ns.length ≤ 1000) (hn : ∀ n ∈ ns, n < 10 ^ 9) (p : P (some ns) c) : nitW (ns.map repN) c P := by
  rw [nitW_eq]
  have h24 : sizeLine = 16777216 := rfl
  refine ⟨by rw [List.length_map]; omega, lcW_inv (fun i acc n' => n' = c ∧ acc = (ns.take i).map some) ⟨rfl, rfl⟩ ?_ ?_⟩
  · rintro i a acc n' e ⟨rfl, rfl⟩ Q q
    rw [List.getElem?_map] at e
    obtain ⟨n, en, rfl⟩ := Option.map_eq_some_iff.mp e
    refine nin_w (hn n (List.mem_of_getElem? en)) (q _ _ ⟨rfl, ?_⟩)
    rw [List.take_add_one, en, List.map_append]
    rfl
  · rintro acc n' ⟨rfl, rfl⟩
    rw [List.length_map, List.take_length]
    show (if decide ((none : Option Nat) ∈ ns.map some) = true then (retW (none : Option (List Nat))) else (mapW some (fun n_ P_ => (retW (ns.map some : List (Option Nat))) n_ fun xs_ n1_ => ∃ ns_ : List Nat, xs_ = ns_.map some ∧ P_ ns_ n1_))) _ _
    rw [if_neg (by simp)]
    exact ⟨ns, rfl, p⟩
/-! ## a telling as a word -/
def wTel (x : T3 Nat Nat Nat) : Str := repN x.a ++ (">" : Str) ++ repN x.b ++ (":" : Str) ++ repN x.c
def lTel (x : T3 Nat Nat Nat) : List Nat := [x.a, x.b, x.c]
theorem wTel_eq (x : T3 Nat Nat Nat) : wTel x = repN x.a ++ (">" : Str) ++ (repN x.b ++ (":" : Str) ++ repN x.c) := by
  unfold wTel
  simp only [app_assoc]
theorem tl_gt : TL.tl (">" : Str) = [62] := by decide +kernel
theorem tl_co : TL.tl (":" : Str) = [58] := by decide +kernel
theorem wTel_tl (x : T3 Nat Nat Nat) : TL.tl (wTel x) = TL.numL x.a ++ [62] ++ TL.numL x.b ++ [58] ++ TL.numL x.c := by
  unfold wTel
  simp only [TL.tl_append, tl_rep, tl_gt, tl_co]
theorem wTel_mem {x : T3 Nat Nat Nat} {s : Nat} (h : s ∈ TL.tl (wTel x)) : 48 ≤ s ∧ s ≤ 62 := by
  rw [wTel_tl] at h
  simp only [List.mem_append, List.mem_singleton] at h
  have d := fun n (hs : s ∈ TL.numL n) => TL.numL_digits n s hs
  rcases h with (((h | rfl) | h) | rfl) | h
  · have := d _ h; omega
  · omega
  · have := d _ h; omega
  · omega
  · have := d _ h; omega
structure Tel3 (x : T3 Nat Nat Nat) : Prop where
  a : x.a < 100
  b : x.b < 100
  c : x.c < 100
theorem wTel_len {x : T3 Nat Nat Nat} (h : Tel3 x) : (wTel x).length ≤ 8 := by
  rw [TL.len_tl, wTel_tl]
  simp only [List.length_append, List.length_singleton]
  have := TL.numL_len (k := 2) (by decide) h.a
  have := TL.numL_len (k := 2) (by decide) h.b
  have := TL.numL_len (k := 2) (by decide) h.c
  omega
theorem tin_w {x : T3 Nat Nat Nat} {c : Nat} {P : Option (List Nat) → Nat → Prop} (h : Tel3 x) (p : P (some (lTel x)) c) : tinW (wTel x) c P := by
  rw [tinW_eq]
  have h24 : sizeLine = 16777216 := rfl
  have hl := wTel_len h
  have e1 : Txt.partition (wTel x) ">" = (repN x.a, (">" : Str), repN x.b ++ (":" : Str) ++ repN x.c) := by
    rw [wTel_eq]
    exact TL.partition_app tl_gt (rep_free (.inr (by decide)))
  have e2 : Txt.partition (repN x.b ++ (":" : Str) ++ repN x.c) ":" = (repN x.b, (":" : Str), repN x.c) := TL.partition_app tl_co (rep_free (.inr (by decide)))
  have l2 : (repN x.b ++ (":" : Str) ++ repN x.c).length ≤ 8 := by
    rw [wTel_eq, len_app] at hl
    omega
  refine ⟨⟨by decide +kernel, by omega⟩, ?_⟩
  rw [e1]
  refine ⟨⟨by decide +kernel, by show (repN x.b ++ (":" : Str) ++ repN x.c).length ≤ _; omega⟩, ?_⟩
  dsimp only
  rw [e2]
  refine ⟨by show 3 ≤ sizeLine; decide, ?_⟩
  exact nit_w (ns := [x.a, x.b, x.c]) (by show 3 ≤ 1000; decide) (fun n hn => by
    have := h.a; have := h.b; have := h.c
    simp only [List.mem_cons, List.not_mem_nil, or_false] at hn
    rcases hn with rfl | rfl | rfl <;> omega) p
theorem cab_w {x : T3 Nat Nat Nat} {hands m c : Nat} {P : Bool → Nat → Prop} (p : P (decide (x.a < hands) && (decide (x.b < hands) && decide (x.c < m))) c) : cabW (lTel x) hands m c P := by
  rw [cabW_eq]
  refine ⟨_, _, _, rfl, ?_⟩
  exact and_b (x := decide (x.a < hands)) (y := decide (x.b < hands) && decide (x.c < m)) (fun Q z => z) (fun _ Q z => and_w (x := decide (x.b < hands)) (y := decide (x.c < m)) (fun Q z => z) (fun _ Q z => z) z) p
end Bf
namespace Bf
open PySem PySem.Spec PyProof.Rows L2 LamX NdefX
theorem cutW_dropT {α : Type} {xs : List α} {k : Nat} : cutW xs (some (k : Int)) none = xs.drop k := by
  unfold cutW
  rw [HT.sIx_nat, HT.sIx_none]
  rcases Nat.le_total k xs.length with l | l
  · rw [Nat.min_eq_left l, List.take_of_length_le (by rw [List.length_drop]; exact Nat.le_refl _)]
  · rw [Nat.min_eq_right l, Nat.sub_self, List.take_zero, List.drop_eq_nil_of_le l]
/-! ## joined texts -/
theorem joinL_len (S : List Nat) (L : Nat) : ∀ ps : List (List Nat), (∀ p ∈ ps, p.length ≤ L) → (TL.joinL S ps).length ≤ ps.length * (L + S.length)
  | [], _ => Nat.zero_le _
  | [p], h => by
    show p.length ≤ 1 * (L + S.length)
    have := h p (List.mem_singleton.mpr rfl)
    omega
  | p :: q :: r, h => by
    have ih := joinL_len S L (q :: r) fun z hz => h z (List.mem_cons_of_mem _ hz)
    show (p ++ (S ++ TL.joinL S (q :: r))).length ≤ ((q :: r).length + 1) * (L + S.length)
    have := h p List.mem_cons_self
    rw [List.length_append, List.length_append, Nat.add_mul, Nat.one_mul]
    omega
theorem joinL_mem {S : List Nat} {s : Nat} : ∀ ps : List (List Nat), s ∈ TL.joinL S ps → s ∈ S ∨ ∃ p ∈ ps, s ∈ p
  | [], h => absurd h List.not_mem_nil
  | [p], h => .inr ⟨p, List.mem_singleton.mpr rfl, h⟩
  | p :: q :: r, h => by
    have h : s ∈ p ++ (S ++ TL.joinL S (q :: r)) := h
    rcases List.mem_append.mp h with h | h
    · exact .inr ⟨p, List.mem_cons_self, h⟩
    rcases List.mem_append.mp h with h | h
    · exact .inl h
    · rcases joinL_mem (q :: r) h with h | ⟨z, hz, h⟩
      · exact .inl h
      · exact .inr ⟨z, List.mem_cons_of_mem _ hz, h⟩
theorem tl_joinT (a : Str) (ys : List Str) : TL.tl (Txt.join a ys) = TL.joinL (TL.tl a) (ys.map TL.tl) := by
  rw [TL.join_eq, TL.tl_join]
theorem join_len {a : Str} {ys : List Str} {L : Nat} (h : ∀ y ∈ ys, y.length ≤ L) : (Txt.join a ys).length ≤ ys.length * (L + a.length) := by
  have := joinL_len (TL.tl a) L (ys.map TL.tl) fun p hp => by
    obtain ⟨y, hy, rfl⟩ := List.mem_map.mp hp
    rw [← TL.len_tl]
    exact h y hy
  rw [TL.len_tl, tl_joinT]
  rw [List.length_map, ← TL.len_tl a] at this
  exact this
theorem join_mem {a : Str} {ys : List Str} {s : Nat} (h : s ∈ TL.tl (Txt.join a ys)) : s ∈ TL.tl a ∨ ∃ y ∈ ys, s ∈ TL.tl y := by
  rw [tl_joinT] at h
  rcases joinL_mem _ h with h | ⟨p, hp, h⟩
  · exact .inl h
  · obtain ⟨y, hy, rfl⟩ := List.mem_map.mp hp
    exact .inr ⟨y, hy, h⟩
theorem sum_le {ys : List Str} {L : Nat} : (∀ y ∈ ys, y.length ≤ L) → (ys.map (·.length)).sum ≤ ys.length * L := by
  induction ys with
  | nil => exact fun _ => Nat.zero_le _
  | cons y ys ih =>
    intro h
    have := ih fun z hz => h z (List.mem_cons_of_mem _ hz)
    have := h y List.mem_cons_self
    rw [List.map_cons, List.sum_cons, List.length_cons, Nat.add_mul, Nat.one_mul]
    omega
theorem jn_ok {a : Str} {ys : List Str} {L N : Nat} (h : ∀ y ∈ ys, y.length ≤ L) (hn : ys.length ≤ N) (ha : a.length ≤ 10) (hb : N * (L + 10) ≤ 16777216) : jnOk a ys := by
  have h1 := sum_le h
  have h2 : ys.length * L ≤ N * L := Nat.mul_le_mul_right _ hn
  have h3 : ys.length * a.length ≤ N * 10 := Nat.mul_le_mul hn ha
  rw [Nat.mul_add] at hb
  unfold jnOk
  omega
theorem tl_sp : TL.tl (" " : Str) = [32] := by decide +kernel
theorem tl_nl : TL.tl ("\n" : Str) = [10] := by decide +kernel
/-! ## words behind the first of a row -/
theorem wat_w {rows : List Str} {i c : Nat} {first : Str} {ws : List Str} {P : Option (Lst Str) → Nat → Prop} (hi : rows[i]? = some (Txt.join " " (first :: ws))) (hf : 32 ∉ TL.tl first) (hw : ∀ w ∈ ws, 32 ∉ TL.tl w) (hl : (Txt.join " " (first :: ws)).length ≤ 10000000) (p : P (some ⟨ws⟩) c) : watW ⟨rows⟩ i first c P := by
  rw [watW_eq]
  have h24 : sizeLine = 16777216 := rfl
  have hlt := (List.getElem?_eq_some_iff.mp hi).1
  unfold watB outW bindW b2W retW
  dsimp only
  refine seq_skip (decide_eq_false (by omega)) ?_
  refine ⟨_, hi, ⟨by decide +kernel, by omega⟩, first, ws, ?_, ?_⟩
  · show Txt.split (Txt.join " " (first :: ws)) " " = _
    exact TL.split_join tl_sp (by decide +kernel) (List.cons_ne_nil _ _) fun p hp => by
      rcases List.mem_cons.mp hp with rfl | hp
      · exact hf
      · exact hw p hp
  · show P (if decide (first = first) = true then some ⟨ws⟩ else none) c
    rw [decide_eq_true rfl, if_pos rfl]
    exact p
theorem nat_w {rows : List Str} {i c many : Nat} {first : Str} {ns : List Nat} {P : Option (List Nat) → Nat → Prop} (hi : rows[i]? = some (Txt.join " " (first :: ns.map repN))) (hf : 32 ∉ TL.tl first) (hm : ns.length = many) (hl : (Txt.join " " (first :: ns.map repN)).length ≤ 10000000) (h9 : ns.length ≤ 1000) (hn : ∀ n ∈ ns, n < 10 ^ 9) (p : P (some ns) c) : natW ⟨rows⟩ i first many c P := by
  rw [natW_eq]
  refine wat_w hi hf (fun w hw => ?_) hl ?_
  · obtain ⟨n, _, rfl⟩ := List.mem_map.mp hw
    exact rep_free (.inl (by decide))
  refine or_b (x := false) (y := false) (fun Q z => z) (fun _ Q z => ⟨_, rfl, ?_⟩) ?_
  · show Q (!decide ((ns.map repN).length = many)) c
    rw [decide_eq_true (by rw [List.length_map]; exact hm)]
    exact z
  · refine seq_skip (c := false || false) rfl ⟨_, rfl, nis_w h9 hn p⟩
/-! ## a beat's words -/
structure BtX (hands m : Nat) (b : List (T3 Nat Nat Nat)) : Prop where
  lt : ∀ x ∈ b, x.a < hands ∧ x.b < hands ∧ x.c < m
  up : ∀ i x y, b[i]? = some x → b[i + 1]? = some y → x.a < y.a
  le : b.length ≤ 64
def wdL (b : List (T3 Nat Nat Nat)) : List Str := if b.isEmpty = true then ["-"] else b.map wTel
theorem BtX.t3 {hands m : Nat} {b : List (T3 Nat Nat Nat)} (h : BtX hands m b) (hh : hands ≤ 64) (hm : m ≤ 60) {x : T3 Nat Nat Nat} (hx : x ∈ b) : Tel3 x := by
  obtain ⟨h1, h2, h3⟩ := h.lt x hx
  exact ⟨by omega, by omega, by omega⟩
theorem wdL_len {hands m : Nat} {b : List (T3 Nat Nat Nat)} (h : BtX hands m b) (hh : hands ≤ 64) (hm : m ≤ 60) : (wdL b).length ≤ 64 ∧ ∀ w ∈ wdL b, w.length ≤ 8 ∧ ∀ s ∈ TL.tl w, 45 ≤ s ∧ s ≤ 62 := by
  unfold wdL
  by_cases e : b.isEmpty = true
  · rw [if_pos e]
    refine ⟨by show 1 ≤ 64; decide, fun w hw => ?_⟩
    rw [List.mem_singleton.mp hw]
    have z : TL.tl ("-" : Str) = [45] := by decide +kernel
    refine ⟨by decide +kernel, fun s hs => ?_⟩
    rw [z] at hs
    have := List.mem_singleton.mp hs
    omega
  · rw [if_neg e]
    refine ⟨by rw [List.length_map]; exact h.le, fun w hw => ?_⟩
    obtain ⟨x, hx, rfl⟩ := List.mem_map.mp hw
    refine ⟨wTel_len (h.t3 hh hm hx), fun s hs => ?_⟩
    have := wTel_mem hs
    omega
theorem str_ok {x : Str} (h : ∀ s ∈ TL.tl x, s ≤ 1000) : PySem.PyData.strOk x = true := by
  show x.cps.all (· < 0x110000) = true
  rw [← Array.all_toList, List.all_eq_true]
  intro s hs
  have := h s hs
  exact decide_eq_true (by omega)
theorem lst_shape {ys : List Str} (h : ∀ y ∈ ys, ∀ s ∈ TL.tl y, s ≤ 1000) : shapeOk (enc (some (⟨ys⟩ : Lst Str))) := by
  have key : ∀ l : List Str, (∀ y ∈ l, ∀ s ∈ TL.tl y, s ≤ 1000) → PyData.canLayAll0 (l.map enc) = true ∧ PyData.hasDictAll (l.map enc) = false ∧ PyData.depthAll (l.map enc) ≤ 0 := by
    intro l
    induction l with
    | nil => exact fun _ => ⟨rfl, rfl, Nat.le_refl _⟩
    | cons y l ih =>
      intro hl
      obtain ⟨a, b, c⟩ := ih fun z hz => hl z (List.mem_cons_of_mem _ hz)
      refine ⟨?_, ?_, ?_⟩
      · show (PySem.PyData.strOk y && PyData.canLayAll0 (l.map enc)) = true
        rw [str_ok (hl y List.mem_cons_self), a]
        rfl
      · show (false || PyData.hasDictAll (l.map enc)) = false
        rw [b]
        rfl
      · show max 0 (PyData.depthAll (l.map enc)) ≤ 0
        omega
  obtain ⟨a, b, c⟩ := key ys h
  refine ⟨?_, b⟩
  unfold SeqAt.shaped
  have : (enc (some (⟨ys⟩ : Lst Str))).canLay0 = true := a
  rw [this, Bool.true_and]
  refine decide_eq_true ?_
  show PyData.depthAll (ys.map enc) + 1 ≤ 64
  omega
theorem bin_w {hands m c : Nat} {b : List (T3 Nat Nat Nat)} {P : Option (List (List Nat)) → Nat → Prop} (h : BtX hands m b) (hh : hands ≤ 64) (hm : m ≤ 60) (p : P (some (b.map lTel)) c) : binW (some ⟨wdL b⟩) hands m c P := by
  rw [binW_eq]
  have h24 : sizeLine = 16777216 := rfl
  obtain ⟨wl, wh⟩ := wdL_len h hh hm
  have hne : (wdL b).length ≠ 0 := by
    unfold wdL
    cases b with
    | nil => decide
    | cons x b => exact Nat.succ_ne_zero _
  refine or_b (x := false) (y := false) (fun Q z => z) (fun _ Q z => ⟨_, rfl, ?_⟩) ?_
  · show Q (decide ((wdL b).length = 0)) c
    rw [decide_eq_false hne]
    exact z
  refine seq_skip (c := false || false) rfl ?_
  refine ⟨by show 1 ≤ sizeLine; omega, ⟨lst_shape fun y hy s hs => by have := (wh y hy).2 s hs; omega, lst_shape (ys := ["-"]) fun y hy s hs => by
    rw [List.mem_singleton.mp hy] at hs
    have z : TL.tl ("-" : Str) = [45] := by decide +kernel
    rw [z] at hs
    have := List.mem_singleton.mp hs
    omega⟩, ?_⟩
  cases hb : b with
  | nil =>
    subst hb
    have e : PyData.eqv (enc (some (⟨wdL []⟩ : Lst Str))) (enc (some (⟨["-"]⟩ : Lst Str))) = true := eqv_t rfl
    refine seq_if (c := PyData.eqv (enc (some (⟨wdL []⟩ : Lst Str))) (enc (some (⟨["-"]⟩ : Lst Str)))) (fun _ => ?_) (fun z => by rw [e] at z; cases z)
    exact ⟨by show 0 ≤ sizeLine; omega, p⟩
  | cons x0 b0 =>
    rw [← hb]
    have ew : wdL b = b.map wTel := by
      unfold wdL
      rw [hb]
      rfl
    rw [ew] at wl wh ⊢
    have e : PyData.eqv (enc (some (⟨b.map wTel⟩ : Lst Str))) (enc (some (⟨["-"]⟩ : Lst Str))) = false := eqv_f fun z => by
      have z := congrArg Lst.l (Option.some.inj z)
      have z : b.map wTel = (["-"] : List Str) := z
      rw [hb, List.map_cons] at z
      have z := congrArg TL.tl (List.cons.inj z).1
      have d : TL.tl ("-" : Str) = [45] := by decide +kernel
      rw [d] at z
      have : (45 : Nat) ∈ TL.tl (wTel x0) := by rw [z]; exact List.mem_singleton.mpr rfl
      have := wTel_mem this
      omega
    refine seq_skip (c := PyData.eqv (enc (some (⟨b.map wTel⟩ : Lst Str))) (enc (some (⟨["-"]⟩ : Lst Str)))) e ?_
    rw [List.length_map] at wl
    refine ⟨_, rfl, by show (b.map wTel).length ≤ _; rw [List.length_map]; omega, ?_⟩
    refine lcW_inv (fun i acc n' => n' = c ∧ acc = (b.take i).map fun x => some (lTel x)) ⟨rfl, rfl⟩ ?_ ?_
    · rintro i a acc n' e ⟨rfl, rfl⟩ Q q
      have e : (b.map wTel)[i]? = some a := e
      rw [List.getElem?_map] at e
      obtain ⟨x, ex, rfl⟩ := Option.map_eq_some_iff.mp e
      refine tin_w (h.t3 hh hm (List.mem_of_getElem? ex)) (q _ _ ⟨rfl, ?_⟩)
      rw [List.take_add_one, ex, List.map_append]
      rfl
    · rintro acc n' ⟨rfl, rfl⟩
      have el : (b.map wTel).length = b.length := List.length_map _
      show _
      dsimp only
      rw [el, List.take_length]
      have hat : ∀ (i : Nat) (o : Option (List Nat)), (b.map fun x => some (lTel x))[i]? = some o → ∃ x, b[i]? = some x ∧ o = some (lTel x) := by
        intro i o e
        rw [List.getElem?_map] at e
        obtain ⟨x, ex, rfl⟩ := Option.map_eq_some_iff.mp e
        exact ⟨x, ex, rfl⟩
      refine ⟨by rw [List.length_map]; omega, lcW_map (g := fun _ => true) (fun i o n' e Q z => ?_) ?_⟩
      · obtain ⟨x, ex, rfl⟩ := hat i o e
        obtain ⟨l1, l2, l3⟩ := h.lt x (List.mem_of_getElem? ex)
        refine and_w (x := true) (y := true) (fun Q z => z) (fun _ Q z => ⟨_, rfl, cab_w ?_⟩) z
        rw [decide_eq_true l1, decide_eq_true l2, decide_eq_true l3]
        exact z
      · have ea : ∀ {α : Type} (l : List α), (l.map fun _ => true).all id = true := fun l => by
          rw [List.all_eq_true]
          intro x hx
          obtain ⟨_, _, rfl⟩ := List.mem_map.mp hx
          rfl
        refine seq_skip (c := !(List.map (fun _ => true) (b.map fun x => some (lTel x))).all id) (by rw [ea]; rfl) ?_
        have e3 : cutW (b.map fun x => some (lTel x)) (some ((1 : Nat) : Int)) none = (b.map fun x => some (lTel x)).drop 1 := cutW_dropT
        refine ⟨?_, ?_⟩
        · show ((b.map fun x => some (lTel x)).zip (cutW (b.map fun x => some (lTel x)) (some ((1 : Nat) : Int)) none)).length ≤ _
          rw [List.length_zip, List.length_map]
          omega
        refine lcW_map (g := fun _ => true) (fun i o n' e Q z => ?_) ?_
        · have e : ((b.map fun x => some (lTel x)).zip (cutW (b.map fun x => some (lTel x)) (some ((1 : Nat) : Int)) none))[i]? = some o := e
          rw [e3] at e
          obtain ⟨o1, o2⟩ := o
          rw [List.getElem?_zip_eq_some] at e
          obtain ⟨f1, f2⟩ := e
          obtain ⟨x, ex, rfl⟩ := hat i _ f1
          rw [List.getElem?_drop, Nat.add_comm] at f2
          obtain ⟨y, ey, rfl⟩ := hat _ _ f2
          have := h.up i x y ex ey
          refine ⟨_, rfl, _, rfl, _, rfl, _, rfl, ?_⟩
          show Q (decide (x.a < y.a)) _
          rw [decide_eq_true this]
          exact z
        · refine seq_skip (c := !(List.map (fun _ => true) _).all id) (by rw [ea]; rfl) ?_
          refine ⟨b.map lTel, ?_, p⟩
          rw [List.map_map]
          rfl
end Bf
namespace Bf
open PySem PySem.Spec PyProof.Rows L2 LamX NdefX
theorem seq_dead {R B S S2 : Type} {c : Bool} {s : S} {k : S → M (Ctl R B S2)} {n : Nat} {P : Ctl R B S2 → Nat → Prop} (e : c = false) (h : k s n P) : seqW (if c = true then (fun _ _ => False : M (Ctl R B S)) else retW (.nxt s)) k n P := seq_skip (a := (fun _ _ => False : M (Ctl R B S))) e h
/-! ## rows, texts of plans -/
def rowT (b : List (T3 Nat Nat Nat)) : Str := Txt.join " " ("beat" :: wdL b)
def headT (p c r : Nat) : Str := Txt.join " " ("plan" :: [p, c, r].map repN)
def rowsT (p c : Nat) (bs : List (List (T3 Nat Nat Nat))) (r : Nat) : List Str := headT p c r :: bs.map rowT
def dueT (p c : Nat) (bs : List (List (T3 Nat Nat Nat))) (r : Nat) : Str := Txt.join "\n" (rowsT p c bs r)
structure Pl (p c : Nat) (bs : List (List (T3 Nat Nat Nat))) (r : Nat) : Prop where
  p2 : 2 ≤ p
  p64 : p ≤ 64
  c1 : 1 ≤ c
  c60 : c ≤ 60
  rp : r < p
  bt : ∀ b ∈ bs, BtX p c b
  n : bs.length ≤ 200
theorem tl_beat : TL.tl ("beat" : Str) = [98, 101, 97, 116] := by decide +kernel
theorem tl_plan : TL.tl ("plan" : Str) = [112, 108, 97, 110] := by decide +kernel
theorem rowT_all {p c : Nat} {b : List (T3 Nat Nat Nat)} (h : BtX p c b) (hh : p ≤ 64) (hm : c ≤ 60) : (rowT b).length ≤ 600 ∧ 10 ∉ TL.tl (rowT b) ∧ ∀ w ∈ wdL b, 32 ∉ TL.tl w := by
  obtain ⟨wl, wh⟩ := wdL_len h hh hm
  refine ⟨?_, fun hs => ?_, fun w hw hs => ?_⟩
  · have := join_len (a := " ") (ys := "beat" :: wdL b) (L := 8) fun y hy => by
      rcases List.mem_cons.mp hy with rfl | hy
      · decide +kernel
      · exact (wh y hy).1
    have e : ((" " : Str)).length = 1 := by decide +kernel
    rw [e, List.length_cons] at this
    have : (rowT b).length ≤ ((wdL b).length + 1) * 9 := this
    omega
  · rcases join_mem hs with hs | ⟨y, hy, hs⟩
    · rw [tl_sp] at hs
      exact absurd (List.mem_singleton.mp hs) (by decide)
    · rcases List.mem_cons.mp hy with rfl | hy
      · rw [tl_beat] at hs
        exact absurd hs (by decide)
      · have := (wh y hy).2 10 hs
        omega
  · have := (wh w hw).2 32 hs
    omega
theorem headT_all {p c r : Nat} (hp : p ≤ 64) (hc : c ≤ 60) (hr : r ≤ 64) : (headT p c r).length ≤ 600 ∧ 10 ∉ TL.tl (headT p c r) := by
  refine ⟨?_, fun hs => ?_⟩
  · have := join_len (a := " ") (ys := "plan" :: [p, c, r].map repN) (L := 8) fun y hy => by
      rcases List.mem_cons.mp hy with rfl | hy
      · decide +kernel
      · obtain ⟨n, hn, rfl⟩ := List.mem_map.mp hy
        exact rep_len (by decide) (by
          simp only [List.mem_cons, List.not_mem_nil, or_false] at hn
          rcases hn with rfl | rfl | rfl <;> omega)
    have e : ((" " : Str)).length = 1 := by decide +kernel
    rw [e, List.length_cons, List.length_map] at this
    have : (headT p c r).length ≤ (3 + 1) * 9 := this
    omega
  · rcases join_mem hs with hs | ⟨y, hy, hs⟩
    · rw [tl_sp] at hs
      exact absurd (List.mem_singleton.mp hs) (by decide)
    · rcases List.mem_cons.mp hy with rfl | hy
      · rw [tl_plan] at hs
        exact absurd hs (by decide)
      · obtain ⟨n, hn, rfl⟩ := List.mem_map.mp hy
        exact absurd hs (rep_free (.inl (by decide)))
theorem rows_all {p c r : Nat} {bs : List (List (T3 Nat Nat Nat))} (h : Pl p c bs r) : ∀ y ∈ rowsT p c bs r, y.length ≤ 600 ∧ 10 ∉ TL.tl y := fun y hy => by
  rcases List.mem_cons.mp hy with rfl | hy
  · exact headT_all h.p64 h.c60 (by have := h.rp; have := h.p64; omega)
  · obtain ⟨b, hb, rfl⟩ := List.mem_map.mp hy
    have := rowT_all (h.bt b hb) h.p64 h.c60
    exact ⟨this.1, this.2.1⟩
theorem rows_len {p c r : Nat} {bs : List (List (T3 Nat Nat Nat))} (h : Pl p c bs r) : (rowsT p c bs r).length = bs.length + 1 := by
  unfold rowsT
  rw [List.length_cons, List.length_map]
theorem due_len {p c r : Nat} {bs : List (List (T3 Nat Nat Nat))} (h : Pl p c bs r) : (dueT p c bs r).length ≤ 200000 := by
  have := join_len (a := "\n") (ys := rowsT p c bs r) (L := 600) fun y hy => (rows_all h y hy).1
  have e : (("\n" : Str)).length = 1 := by decide +kernel
  rw [e, rows_len h] at this
  have := h.n
  have : (dueT p c bs r).length ≤ (bs.length + 1) * 601 := by assumption
  omega
theorem rof_w {p c r k : Nat} {bs : List (List (T3 Nat Nat Nat))} {P : Lst Str → Nat → Prop} (h : Pl p c bs r) (q : P ⟨rowsT p c bs r⟩ k) : rofW (dueT p c bs r) k P := by
  rw [rofW_eq]
  have h24 : sizeLine = 16777216 := rfl
  have := due_len h
  simp only [rofB, outW, bindW, mapW, b2W, retW]
  refine seq_dead (c := !true) (s := ()) rfl ?_
  refine ⟨⟨by decide +kernel, by omega⟩, ?_⟩
  have e : Txt.split (dueT p c bs r) "\n" = rowsT p c bs r := TL.split_join tl_nl (by decide +kernel) (List.cons_ne_nil _ _) fun y hy => (rows_all h y hy).2
  rw [e]
  exact q
theorem ch_t {x y z k : Nat} {Q : Bool → Nat → Prop} (h1 : x ≤ y) (h2 : y ≤ z) (q : Q false k) : mapW (fun b => !b) (chW (fun a b : Nat => decide (a ≤ b)) (fun a b : Nat => decide (a ≤ b)) (retW x) (retW y) (retW z)) k Q := by
  refine if_w (c := decide (x ≤ y)) (fun _ => ?_) (fun w => by rw [decide_eq_true h1] at w; cases w)
  show Q (!decide (y ≤ z)) k
  rw [decide_eq_true h2]
  exact q
theorem rpl_w {p c r k : Nat} {bs : List (List (T3 Nat Nat Nat))} {P : T4 Nat Nat (List (List (List Nat))) Nat → Nat → Prop} (h : Pl p c bs r) (q : P ⟨p, c, bs.map fun b => b.map lTel, r⟩ k) : rplW (dueT p c bs r) k P := by
  rw [rplW_eq]
  have h24 : sizeLine = 16777216 := rfl
  have hp2 := h.p2
  have hp := h.p64
  have hc1 := h.c1
  have hc := h.c60
  have hr := h.rp
  have hn := h.n
  refine rof_w h ?_
  refine nat_w (ns := [p, c, r]) (List.getElem?_cons_zero) (by rw [tl_plan]; decide) rfl ?_ (by show 3 ≤ 1000; decide) (fun n hn => by
    simp only [List.mem_cons, List.not_mem_nil, or_false] at hn
    rcases hn with rfl | rfl | rfl <;> omega) ?_
  · have := (headT_all (p := p) (c := c) (r := r) hp hc (by omega)).1
    exact Nat.le_trans this (by decide)
  refine seq_dead (c := (some [p, c, r]).isNone) rfl ?_
  refine ⟨_, rfl, _, _, _, rfl, ?_⟩
  refine or_b (x := false) (y := false) (fun Q z => ch_t hp2 hp z) (fun _ Q z => or_w (x := false) (y := false) (fun Q z => ch_t hc1 hc z) (fun _ Q z => ?_) z) ?_
  · show Q (decide (p ≤ r)) k
    rw [decide_eq_false (by omega)]
    exact z
  refine seq_dead (c := false || false) rfl ?_
  have hrl := rows_len h
  refine ⟨by show 0 ≤ sizeLine; omega, ⟨by decide, by show (rowsT p c bs r).length < _; omega⟩, ?_⟩
  have rl : (rng2 1 (rowsT p c bs r).length).length = bs.length := by
    unfold rng2
    rw [List.length_map, List.length_range, hrl]
    rfl
  refine seq_for (xs := rng2 1 (rowsT p c bs r).length) (fun i (s : Lst (List (List Nat))) n' => n' = k ∧ s.l = (bs.take i).map fun b => b.map lTel) ⟨rfl, rfl⟩ ?_ ?_
  · rintro i a ⟨s⟩ n' e ⟨rfl, es⟩ Q qq
    have es : s = (bs.take i).map fun b => b.map lTel := es
    have hi := (List.getElem?_eq_some_iff.mp e).1
    rw [rl] at hi
    have ea : a = 1 + i := by
      unfold rng2 at e
      rw [List.getElem?_map, hrl, List.getElem?_range (by omega)] at e
      exact (Option.some.inj e).symm
    subst ea
    have eb := List.getElem?_eq_getElem hi
    generalize bs[i] = b at eb
    have hb := h.bt b (List.mem_of_getElem? eb)
    obtain ⟨r1, r2, r3⟩ := rowT_all hb hp hc
    refine wat_w (ws := wdL b) ?_ (by rw [tl_beat]; decide) r3 (Nat.le_trans r1 (by decide)) ?_
    · show (headT p c r :: bs.map rowT)[1 + i]? = some (rowT b)
      rw [Nat.add_comm, List.getElem?_cons_succ, List.getElem?_map, eb]
      rfl
    refine bin_w hb hp hc ?_
    refine or_b (x := false) (y := false) (fun Q z => z) (fun _ Q z => ?_) ?_
    · show Q (decide (200 < 1 + i)) n'
      rw [decide_eq_false (by omega)]
      exact z
    refine seq_dead (c := false || false) rfl ?_
    refine ⟨_, rfl, ?_, qq _ _ ⟨rfl, ?_⟩⟩
    · show s.length < sizeLine
      rw [es, List.length_map, List.length_take]
      omega
    · show s ++ [b.map lTel] = _
      rw [List.take_add_one, eb, List.map_append, es]
      rfl
  · rintro ⟨s⟩ n' ⟨rfl, es⟩
    have es : s = (bs.take (rng2 1 (rowsT p c bs r).length).length).map fun b => b.map lTel := es
    rw [rl, List.take_length] at es
    subst es
    exact q
/-! ## showing -/
theorem join_cons (a x y : Str) (r : List Str) : Txt.join a (x :: y :: r) = x ++ a ++ Txt.join a (y :: r) := by
  rw [TL.join_eq, TL.join_eq]
  rfl
theorem join_one (a x : Str) : Txt.join a [x] = x := by
  rw [TL.join_eq]
  rfl
theorem wdL_cons (b : List (T3 Nat Nat Nat)) : ∃ y r, wdL b = y :: r := by
  unfold wdL
  cases b with
  | nil => exact ⟨_, _, rfl⟩
  | cons x b => exact ⟨_, _, rfl⟩
theorem rowT_eq (b : List (T3 Nat Nat Nat)) : rowT b = ("beat " : Str) ++ Txt.join " " (wdL b) := by
  obtain ⟨y, r, e⟩ := wdL_cons b
  unfold rowT
  rw [e, join_cons]
  have : ("beat" : Str) ++ (" " : Str) = ("beat " : Str) := by decide +kernel
  rw [this]
def spF (b : List (T3 Nat Nat Nat)) : Str := Txt.join " " (wdL b)
theorem empty_app (x : Str) : Str.empty ++ x = x := TL.ext_tl (by rw [TL.tl_append]; rfl)
theorem spt_w {b : List (T3 Nat Nat Nat)} {k : Nat} {P : Str → Nat → Prop} (hl : b.length ≤ 64) (h3 : ∀ x ∈ b, Tel3 x) (q : P (spF b) k) : sptW ⟨b.map wTel⟩ k P := by
  rw [sptW_eq]
  have h24 : sizeLine = 16777216 := rfl
  unfold sptB outW bindW b2W retW
  dsimp only
  refine seq_if (fun hc => ?_) (fun hc => ?_)
  · have hc := of_decide_eq_true hc
    rw [List.length_map] at hc
    have := List.length_eq_zero_iff.mp hc
    subst this
    exact q
  · have hc := of_decide_eq_false hc
    rw [List.length_map] at hc
    have e : spF b = Txt.join " " (b.map wTel) := by
      unfold spF wdL
      rw [if_neg (by
        cases b with
        | nil => exact absurd rfl hc
        | cons x b => simp)]
    refine ⟨by rw [List.length_map]; omega, lcW_map (g := fun x => x) (fun i a n' e Q z => z) ?_⟩
    rw [List.map_id']
    refine ⟨jn_ok (L := 8) (N := 64) (fun y hy => ?_) (by rw [List.length_map]; exact hl) (by decide +kernel) (by decide), ?_⟩
    · obtain ⟨x, hx, rfl⟩ := List.mem_map.mp hy
      exact wTel_len (h3 x hx)
    · rw [e] at q
      exact q
theorem tel_js {x : T3 Nat Nat Nat} {k : Nat} {Q : Str → Nat → Prop} (h : Tel3 x) (q : Q (wTel x) k) : jsW [(bindW (retW (x.a : Nat)) fun n_ => reqW (n_ < 2 ^ 60) (retW (repN n_))), (retW (">" : Str)), (bindW (retW (x.b : Nat)) fun n_ => reqW (n_ < 2 ^ 60) (retW (repN n_))), (retW (":" : Str)), (bindW (retW (x.c : Nat)) fun n_ => reqW (n_ < 2 ^ 60) (retW (repN n_)))] Str.empty k Q := by
  have h24 : sizeLine = 16777216 := rfl
  have ha := h.a
  have hb := h.b
  have hc := h.c
  have la := rep_len (k := 2) (by decide) ha
  have lb := rep_len (k := 2) (by decide) hb
  have lc := rep_len (k := 2) (by decide) hc
  have l1 : ((">" : Str)).length = 1 := by decide +kernel
  have l2 : ((":" : Str)).length = 1 := by decide +kernel
  refine ⟨by omega, ?_, ?_⟩
  · rw [empty_app]; omega
  rw [empty_app]
  refine ⟨by rw [len_app]; omega, by omega, by rw [len_app, len_app]; omega, by rw [len_app, len_app, len_app]; omega, by omega, by rw [len_app, len_app, len_app, len_app]; omega, q⟩
theorem head_js {p c r k : Nat} {Q : Str → Nat → Prop} (hp : p ≤ 64) (hc : c ≤ 60) (hr : r ≤ 64) (q : Q (headT p c r) k) : jsW [(retW ("plan " : Str)), (bindW (retW (p : Nat)) fun n_ => reqW (n_ < 2 ^ 60) (retW (repN n_))), (retW (" " : Str)), (bindW (retW (c : Nat)) fun n_ => reqW (n_ < 2 ^ 60) (retW (repN n_))), (retW (" " : Str)), (bindW (retW (r : Nat)) fun n_ => reqW (n_ < 2 ^ 60) (retW (repN n_)))] Str.empty k Q := by
  have h24 : sizeLine = 16777216 := rfl
  have la := rep_len (n := p) (k := 2) (by decide) (by omega)
  have lb := rep_len (n := c) (k := 2) (by decide) (by omega)
  have lc := rep_len (n := r) (k := 2) (by decide) (by omega)
  have l1 : (("plan " : Str)).length = 5 := by decide +kernel
  have l2 : ((" " : Str)).length = 1 := by decide +kernel
  refine ⟨?_, ?_⟩
  · rw [empty_app]; omega
  rw [empty_app]
  refine ⟨by omega, by rw [len_app]; omega, by rw [len_app, len_app]; omega, by omega, by rw [len_app, len_app, len_app]; omega, by rw [len_app, len_app, len_app, len_app]; omega, by omega, by rw [len_app, len_app, len_app, len_app, len_app]; omega, ?_⟩
  have e : headT p c r = ("plan " : Str) ++ repN p ++ (" " : Str) ++ repN c ++ (" " : Str) ++ repN r := by
    show Txt.join " " ["plan", repN p, repN c, repN r] = _
    rw [join_cons, join_cons, join_cons, join_one]
    have : ("plan " : Str) = ("plan" : Str) ++ (" " : Str) := by decide +kernel
    rw [this]
    simp only [app_assoc]
  rw [e] at q
  exact q
theorem spF_len {p c : Nat} {b : List (T3 Nat Nat Nat)} (h : BtX p c b) (hh : p ≤ 64) (hm : c ≤ 60) : (spF b).length ≤ 600 := by
  have := (rowT_all h hh hm).1
  rw [rowT_eq, len_app] at this
  unfold spF
  omega
theorem shp_w {p c r k : Nat} {bs : List (List (T3 Nat Nat Nat))} {P : Str → Nat → Prop} (h : Pl p c bs r) (q : P (dueT p c bs r) k) : shpW p c bs r k P := by
  rw [shpW_eq]
  have h24 : sizeLine = 16777216 := rfl
  have hn := h.n
  have hp := h.p64
  have hc := h.c60
  have hr := h.rp
  refine ⟨by omega, lcW_map (g := spF) (fun i b n' e Q z => ?_) ?_⟩
  · have hb := h.bt b (List.mem_of_getElem? e)
    have hl := hb.le
    refine ⟨by omega, lcW_map (g := wTel) (fun i x n' e Q z => tel_js (hb.t3 hp hc (List.mem_of_getElem? e)) z) ?_⟩
    exact spt_w hl (fun x hx => hb.t3 hp hc hx) z
  refine head_js hp hc (by omega) ?_
  refine ⟨by show 1 ≤ sizeLine; omega, by rw [List.length_map]; omega, lcW_map (g := fun s => ("beat " : Str) ++ s) (fun i s n' e Q z => ?_) ?_⟩
  · rw [List.getElem?_map] at e
    obtain ⟨b, eb, rfl⟩ := Option.map_eq_some_iff.mp e
    have := spF_len (h.bt b (List.mem_of_getElem? eb)) hp hc
    have l1 : (("beat " : Str)).length = 5 := by decide +kernel
    refine ⟨?_, by omega, ?_, ?_⟩
    · rw [empty_app]; omega
    · rw [empty_app, len_app]; omega
    · rw [empty_app]
      exact z
  · have e : (bs.map spF).map (fun s => ("beat " : Str) ++ s) = bs.map rowT := by
      rw [List.map_map]
      exact List.map_congr_left fun b _ => (rowT_eq b).symm
    rw [e]
    refine ⟨by show 1 + (bs.map rowT).length ≤ _; rw [List.length_map]; omega, jn_ok (ys := rowsT p c bs r) (L := 600) (N := 201) (fun y hy => (rows_all h y hy).1) (by rw [rows_len h]; omega) (by decide +kernel) (by decide), q⟩
theorem lro_w {p c k : Nat} {b : List (T3 Nat Nat Nat)} {P : Str → Nat → Prop} (h : BtX p c b) (hh : p ≤ 64) (hm : c ≤ 60) (q : P (rowT b) k) : lroW b k P := by
  rw [lroW_eq]
  have h24 : sizeLine = 16777216 := rfl
  have hl := h.le
  refine ⟨by omega, lcW_map (g := wTel) (fun i x n' e Q z => ?_) ?_⟩
  · have t := h.t3 hh hm (List.mem_of_getElem? e)
    have ha := t.a
    have hb := t.b
    have hc := t.c
    have la := rep_len (k := 2) (by decide) ha
    have lb := rep_len (k := 2) (by decide) hb
    have lc := rep_len (k := 2) (by decide) hc
    have l1 : ((">" : Str)).length = 1 := by decide +kernel
    have l2 : ((":" : Str)).length = 1 := by decide +kernel
    exact ⟨by omega, by omega, by omega, by rw [len_app]; omega, by rw [len_app, len_app]; omega, by omega, by rw [len_app, len_app, len_app]; omega, z⟩
  obtain ⟨wl, wh⟩ := wdL_len h hh hm
  have fin : ∀ ys : List Str, ys = wdL b → reqW (jnOk " " ("beat" :: ys)) (retW (Txt.join " " ("beat" :: ys))) k P := fun ys e => by
    subst e
    refine ⟨jn_ok (L := 8) (N := 65) (fun y hy => ?_) (by rw [List.length_cons]; omega) (by decide +kernel) (by decide), q⟩
    rcases List.mem_cons.mp hy with rfl | hy
    · decide +kernel
    · exact (wh y hy).1
  refine ⟨by show 1 ≤ sizeLine; omega, ?_⟩
  cases b with
  | nil => exact ⟨by show 1 ≤ sizeLine; omega, by show 2 ≤ sizeLine; omega, fin ["-"] rfl⟩
  | cons x b =>
    have e : wdL (x :: b) = (x :: b).map wTel := rfl
    rw [e] at wl
    exact ⟨by show 1 + ((x :: b).map wTel).length ≤ _; omega, fin _ e.symm⟩
end Bf
namespace Bf
open PySem PySem.Spec PyProof.Rows L2 LamX NdefX
theorem rgAt6 {n i a : Nat} (h : (List.range n)[i]? = some a) : i < n ∧ a = i := by
  have hi := (List.getElem?_eq_some_iff.mp h).1
  rw [List.length_range] at hi
  rw [List.getElem?_range hi] at h
  exact ⟨hi, (Option.some.inj h).symm⟩
/-! ## drawn beats -/
structure Bup (p c i : Nat) (l : List (T3 Nat Nat Nat)) : Prop where
  lt : ∀ x ∈ l, x.a < i ∧ x.b < p ∧ x.c < c
  up : ∀ j x y, l[j]? = some x → l[j + 1]? = some y → x.a < y.a
  le : l.length ≤ i
theorem Bup.mono {p c i : Nat} {l : List (T3 Nat Nat Nat)} (h : Bup p c i l) : Bup p c (i + 1) l := ⟨fun x hx => by have := h.lt x hx; exact ⟨by omega, this.2.1, this.2.2⟩, h.up, by have := h.le; omega⟩
theorem Bup.snoc {p c i o s : Nat} {l : List (T3 Nat Nat Nat)} (h : Bup p c i l) (ho : o < p) (hs : s < c) : Bup p c (i + 1) (l ++ [⟨i, o, s⟩]) := by
  refine ⟨fun x hx => ?_, fun j x y ex ey => ?_, by rw [List.length_append]; have := h.le; show l.length + 1 ≤ i + 1; omega⟩
  · rcases List.mem_append.mp hx with hx | hx
    · exact h.mono.lt x hx
    · rw [List.mem_singleton.mp hx]
      exact ⟨Nat.lt_succ_self _, ho, hs⟩
  · have hj := (List.getElem?_eq_some_iff.mp ey).1
    rw [List.length_append] at hj
    have hj : j + 1 < l.length + 1 := hj
    rw [List.getElem?_append_left (by omega)] at ex
    by_cases h1 : j + 1 < l.length
    · rw [List.getElem?_append_left h1] at ey
      exact h.up j x y ex ey
    · rw [List.getElem?_append_right (by omega)] at ey
      have e0 : j + 1 - l.length = 0 := by omega
      rw [e0] at ey
      cases ey
      exact (h.lt x (List.mem_of_getElem? ex)).1
theorem bea_w {p c n : Nat} {P : List (T3 Nat Nat Nat) → Nat → Prop} (hp0 : 0 < p) (hp : p ≤ 64) (hc0 : 0 < c) (hc : c ≤ 60) (hn : n < 90000) (q : ∀ b n', BtX p c b → n' ≤ n + 3 * p → P b n') : beaW p c n P := by
  rw [beaW_eq]
  have h24 : sizeLine = 16777216 := rfl
  refine ⟨by show 0 ≤ sizeLine; omega, by omega, ?_⟩
  refine seq_for (xs := List.range p) (fun i (s : Lst (T3 Nat Nat Nat)) n' => Bup p c i s.l ∧ n' ≤ n + 3 * i) ⟨⟨(fun x hx => nomatch hx), (fun j x y ex => nomatch ex), Nat.le_refl _⟩, Nat.le_refl _⟩ ?_ ?_
  · rintro i a ⟨s⟩ n' e ⟨hs, hn'⟩ Q qq
    have hs : Bup p c i s := hs
    obtain ⟨hi, rfl⟩ := rgAt6 e
    have hl := hs.le
    refine ⟨⟨by decide, by decide, by omega⟩, fun d hd => ?_⟩
    refine seq_if (c := decide (d = 0)) (fun _ => ?_) (fun _ => qq _ _ ⟨hs.mono, by omega⟩)
    exact ⟨⟨by omega, by omega, by omega⟩, fun o ho => ⟨⟨hc0, by omega, by omega⟩, fun t ht => ⟨by show s.length < sizeLine; omega, qq _ _ ⟨hs.snoc ho ht, by omega⟩⟩⟩⟩
  · rintro ⟨s⟩ n' ⟨hs, hn'⟩
    have hs : Bup p c (List.range p).length s := hs
    rw [List.length_range] at hs hn'
    exact q _ _ ⟨fun x hx => hs.lt x hx, hs.up, Nat.le_trans hs.le hp⟩ hn'
/-! ## plans shown -/
theorem gd_t4 {a b c d : PyData} {W1 W2 W3 W4 D : Nat} (ha : Gd a W1 D) (hb : Gd b W2 D) (hc : Gd c W3 D) (hd : Gd d W4 D) : Gd (.tuple [a, b, c, d]) (W1 + W2 + W3 + W4 + 4) (D + 1) := by
  refine ⟨?_, ?_, ?_, ?_, ?_, ?_⟩
  · show (PyData.showable a && (PyData.showable b && (PyData.showable c && (PyData.showable d && true)))) = true
    rw [ha.sh, hb.sh, hc.sh, hd.sh]; rfl
  · show (PyData.hasDict a || (PyData.hasDict b || (PyData.hasDict c || (PyData.hasDict d || false)))) = false
    rw [ha.di, hb.di, hc.di, hd.di]; rfl
  · show max (PyData.depth a) (max (PyData.depth b) (max (PyData.depth c) (max (PyData.depth d) 0))) + 1 ≤ D + 1
    have := ha.de; have := hb.de; have := hc.de; have := hd.de
    omega
  · show (PyData.leavesShort 64 a && (PyData.leavesShort 64 b && (PyData.leavesShort 64 c && (PyData.leavesShort 64 d && true)))) = true
    rw [ha.lv, hb.lv, hc.lv, hd.lv]; rfl
  · show PyData.weight a + 1 + (PyData.weight b + 1 + (PyData.weight c + 1 + (PyData.weight d + 1 + 0))) ≤ _
    have := ha.we; have := hb.we; have := hc.we; have := hd.we
    omega
  · show (PyData.canLay0 a && (PyData.canLay0 b && (PyData.canLay0 c && (PyData.canLay0 d && true)))) = true
    rw [ha.ca, hb.ca, hc.ca, hd.ca]; rfl
theorem enc_tel (bs : List (List (T3 Nat Nat Nat))) : (enc (bs.map fun b => b.map lTel) : PyData) = enc bs := by
  show PyData.tuple ((bs.map fun b => b.map lTel).map enc) = .tuple (bs.map enc)
  rw [List.map_map]
  refine congrArg PyData.tuple (List.map_congr_left fun b _ => ?_)
  show PyData.tuple ((b.map lTel).map enc) = .tuple (b.map enc)
  rw [List.map_map]
  rfl
theorem gd_bs {p c r n : Nat} {bs : List (List (T3 Nat Nat Nat))} (h : Pl p c bs r) (hn : ∀ b ∈ bs, b.length ≤ n) (hw : 190 * n * bs.length + bs.length ≤ 80000) : Gd (enc (bs.map fun b => b.map lTel)) 80000 3 := by
  refine (gd_of (W := 190 * n) (D := 2) (k := bs.length) (fun y hy => ?_) (by rw [List.length_map]; exact Nat.le_refl _)).mono (by rw [Nat.add_mul, Nat.one_mul]; exact hw) (Nat.le_refl _)
  obtain ⟨b, hb, rfl⟩ := List.mem_map.mp hy
  refine (gd_of (W := 189) (D := 1) (k := n) (fun z hz => ?_) (by rw [List.length_map]; exact hn b hb))
  obtain ⟨x, hx, rfl⟩ := List.mem_map.mp hz
  have t := (h.bt b hb).t3 h.p64 h.c60 hx
  have ha := t.a; have hb := t.b; have hc := t.c
  exact gd_row (k := 3) (fun n hn => by
    have hn : n ∈ [x.a, x.b, x.c] := hn
    simp only [List.mem_cons, List.not_mem_nil, or_false] at hn
    rcases hn with rfl | rfl | rfl <;> omega) (Nat.le_refl _)
theorem seq_cutI {R B S S2 : Type} {a : M (Ctl R B S)} {k : S → M (Ctl R B S2)} {n : Nat} {P : Ctl R B S2 → Nat → Prop} (I : S → Nat → Prop) (h1 : ∀ Q : Ctl R B S → Nat → Prop, (∀ s n', I s n' → Q (.nxt s) n') → a n Q) (h2 : ∀ s n', I s n' → k s n' P) : seqW a k n P := h1 _ h2
structure Pg (p c : Nat) (bs : List (List (T3 Nat Nat Nat))) (r : Nat) : Prop where
  pl : Pl p c bs r
  gd : Gd (enc (bs.map fun b => b.map lTel)) 80000 3
theorem ri_w {n : Nat} {P : Bool → Nat → Prop} (hn : n < 80000) (q : ∀ n', n' ≤ n + 1300 → P true n') : riW n P := by
  rw [riW_eq]
  have h24 : sizeLine = 16777216 := rfl
  refine ⟨⟨by decide, by decide, by omega⟩, fun d hd => ⟨by show 6 ≤ sizeLine; omega, ⟨by show 0 < 6; decide, by show 6 < 1073741824; decide, by omega⟩, fun p hpm => ⟨⟨by decide, by decide, by omega⟩, fun c' hc' => ?_⟩⟩⟩
  have hp : 2 ≤ p ∧ p ≤ 64 := by
    have hpm : p ∈ [2, 3, 5, 8, 64, 2 + d] := hpm
    simp only [List.mem_cons, List.not_mem_nil, or_false] at hpm
    omega
  obtain ⟨hp2, hp64⟩ := hp
  have hcc : 1 + c' ≤ 60 ∧ 1 ≤ 1 + c' := by omega
  obtain ⟨hc60, hc1⟩ := hcc
  refine ⟨⟨by show 0 < p; omega, by show p < _; omega, by omega⟩, fun r hr => ⟨by show 5 ≤ sizeLine; omega, ⟨by show 0 < 5; decide, by show 5 < 1073741824; decide, by omega⟩, fun size hsm => ?_⟩⟩
  have hr : r < p := hr
  have hsz : size ≤ 6 ∨ size = 200 := by
    have hsm : size ∈ [0, 1, 2, 6, 200] := hsm
    simp only [List.mem_cons, List.not_mem_nil, or_false] at hsm
    omega
  refine seq_cutI (fun (bs : List (List (T3 Nat Nat Nat))) n' => Pg p (1 + c') bs r ∧ n' ≤ n + 1300) (fun Q qq => ?_) ?_
  · refine if_w (c := decide (size < 9)) (fun hs => ?_) (fun hs => ?_)
    · have hs := of_decide_eq_true hs
      have hs6 : size ≤ 6 := by omega
      refine ⟨by show size < _; omega, by show (List.range size).length ≤ _; rw [List.length_range]; omega, ?_⟩
      refine lcW_inv (fun i acc n' => acc.length = i ∧ (∀ b ∈ acc, BtX p (1 + c') b) ∧ n' ≤ n + 5 + 192 * i) ⟨rfl, (fun b hb => nomatch hb), by omega⟩ ?_ ?_
      · rintro i a acc n' e ⟨h1, h2, h3⟩ Q2 q2
        have hi := (rgAt6 e).1
        refine bea_w (p := p) (n := n') (c := 1 + c') (by omega) hp64 (by omega) hc60 (by omega) fun b n2 hb hn2 => q2 _ _ ⟨?_, ?_, ?_⟩
        · rw [List.length_append, h1]; rfl
        · intro z hz
          rcases List.mem_append.mp hz with hz | hz
          · exact h2 z hz
          · rw [List.mem_singleton.mp hz]
            exact hb
        · omega
      · rintro acc n' ⟨h1, h2, h3⟩
        rw [List.length_range] at h1 h3
        have pl : Pl p (1 + c') acc r := ⟨hp2, hp64, hc1, hc60, hr, h2, by omega⟩
        refine qq _ _ ⟨⟨pl, gd_bs (bs := acc) (n := 64) pl (fun b hb => (h2 b hb).le) (by omega)⟩, by omega⟩
    · have hs := of_decide_eq_false hs
      have e200 : size = 200 := by omega
      subst e200
      have em : ∀ b ∈ (List.replicate ((200 : Nat) : Int).toNat [[(⟨0, 1, 0⟩ : T3 Nat Nat Nat)]]).flatten, b = [⟨0, 1, 0⟩] := fun b hb => by
        obtain ⟨l, hl, hb⟩ := List.mem_flatten.mp hb
        rw [List.eq_of_mem_replicate hl] at hb
        exact List.mem_singleton.mp hb
      have el : (List.replicate ((200 : Nat) : Int).toNat [[(⟨0, 1, 0⟩ : T3 Nat Nat Nat)]]).flatten.length = 200 := by decide +kernel
      generalize hbs : (List.replicate ((200 : Nat) : Int).toNat [[(⟨0, 1, 0⟩ : T3 Nat Nat Nat)]]).flatten = bs at em el
      have pl : Pl p (1 + c') bs r := ⟨hp2, hp64, hc1, hc60, hr, fun b hb => by
        rw [em b hb]
        refine ⟨fun x hx => ?_, fun j x y ex ey => ?_, by show 1 ≤ 64; decide⟩
        · rw [List.mem_singleton.mp hx]
          exact ⟨by show 0 < p; omega, by show 1 < p; omega, by show 0 < 1 + c'; omega⟩
        · have := (List.getElem?_eq_some_iff.mp ey).1
          have : j + 1 < 1 := this
          omega, by omega⟩
      refine ⟨by show 1 ≤ sizeLine; omega, by show 1 ≤ sizeLine; omega, ⟨List.cons_ne_nil _ _, by decide, by decide, by show 1 ≤ 1000; decide⟩, ?_⟩
      rw [hbs]
      exact qq _ _ ⟨⟨pl, gd_bs (n := 1) pl (fun b hb => by rw [em b hb]; exact Nat.le_refl 1) (by omega)⟩, by omega⟩
  · rintro bs n1 ⟨⟨pl, gd⟩, hn1⟩
    have hbn := pl.n
    have hd : headT p (1 + c') r = Txt.join " " ["plan", repN p, repN (1 + c'), repN r] := rfl
    have jh : jnOk " " ["plan", repN p, repN (1 + c'), repN r] := by
      refine jn_ok (L := 8) (N := 4) (fun y hy => ?_) (Nat.le_refl _) (by decide +kernel) (by decide)
      rcases List.mem_cons.mp hy with rfl | hy
      · decide +kernel
      · obtain ⟨z, hz, rfl⟩ := List.mem_map.mp (show y ∈ [p, 1 + c', r].map repN from hy)
        exact rep_len (by decide) (by
          simp only [List.mem_cons, List.not_mem_nil, or_false] at hz
          rcases hz with rfl | rfl | rfl <;> omega)
    have j1 : jnOk "\n" (rowsT p (1 + c') bs r) := jn_ok (L := 600) (N := 201) (fun y hy => (rows_all pl y hy).1) (by rw [rows_len pl]; omega) (by decide +kernel) (by decide)
    refine ⟨by omega, by omega, by omega, by show 4 ≤ sizeLine; omega, jh, by show 1 ≤ sizeLine; omega, ?_⟩
    dsimp only
    rw [← hd]
    refine ⟨by omega, lcW_map (g := rowT) (fun i b n' e Q z => lro_w (pl.bt b (List.mem_of_getElem? e)) hp64 hc60 z) ?_⟩
    refine ⟨by show 1 + (bs.map rowT).length ≤ _; rw [List.length_map]; omega, j1, ?_⟩
    have gA : Gd (enc (⟨p, 1 + c', bs.map fun b => b.map lTel, r⟩ : T4 Nat Nat (List (List (List Nat))) Nat)) (62 + 62 + 80000 + 62 + 4) 4 :=
      gd_t4 ((gd_nat (n := p) (by omega)).mono (Nat.le_refl _) (by decide)) ((gd_nat (n := 1 + c') (by omega)).mono (Nat.le_refl _) (by decide)) gd ((gd_nat (n := r) (by omega)).mono (Nat.le_refl _) (by decide))
    have eA : enc (⟨p, 1 + c', bs.map fun b => b.map lTel, r⟩ : T4 Nat Nat (List (List (List Nat))) Nat) = enc (⟨p, 1 + c', bs, r⟩ : T4 Nat Nat (List (List (T3 Nat Nat Nat))) Nat) := by
      show PyData.tuple [enc p, enc (1 + c'), enc (bs.map fun b => b.map lTel), enc r] = .tuple [enc p, enc (1 + c'), enc bs, enc r]
      rw [enc_tel]
    have pl0 : Pl p (1 + c') bs 0 := ⟨pl.p2, pl.p64, pl.c1, pl.c60, by omega, pl.bt, pl.n⟩
    refine shp_w pl ?_
    refine seq_skip (c := !decide (dueT p (1 + c') bs r = dueT p (1 + c') bs r)) (by rw [decide_eq_true rfl]; rfl) ?_
    refine shp_w pl ?_
    refine seq_skip (c := !decide (dueT p (1 + c') bs r = dueT p (1 + c') bs r)) (by rw [decide_eq_true rfl]; rfl) ?_
    refine or_b (x := false) (y := false) (fun Q z => ?_) (fun _ Q z => ?_) ?_
    · refine rpl_w pl ⟨gA.repr (by decide) (by decide), ?_, ?_⟩
      · exact eA ▸ gA.repr (by decide) (by decide)
      · show Q (!decide ((enc (⟨p, 1 + c', bs.map fun b => b.map lTel, r⟩ : T4 Nat Nat (List (List (List Nat))) Nat)).shown = (enc (⟨p, 1 + c', bs, r⟩ : T4 Nat Nat (List (List (T3 Nat Nat Nat))) Nat)).shown)) n1
        rw [eA, decide_eq_true rfl]
        exact z
    · refine rpl_w pl (rpl_w pl ⟨⟨gA.shape (by decide), gA.shape (by decide)⟩, ?_⟩)
      show Q (!PyData.eqv _ _) n1
      rw [gA.refl]
      exact z
    refine seq_skip (c := false || false) rfl ?_
    refine shp_w pl0 (shp_w pl0 ?_)
    show P (decide (dueT p (1 + c') bs 0 = dueT p (1 + c') bs 0)) n1
    rw [decide_eq_true rfl]
    exact q _ hn1
theorem law_win (ns : List Int) (hl : ns.length ≤ 63) : outW (lawB ns) 0 fun r _ => r = true := by
  have h24 : sizeLine = 16777216 := rfl
  refine ⟨by show max 1 (min 3 ns.length) < 4611686018427387904; omega, ?_⟩
  refine seq_for (fun _ _ _ => True) trivial ?_ ?_
  · rintro k a ⟨⟩ n e _ Q qq
    obtain ⟨ha, rfl⟩ := rgAt6 e
    refine ⟨⟨hl, by omega⟩, by decide, by show 3 ≤ sizeLine; omega, ?_⟩
    refine lcW_inv (fun i acc n' => n' ≤ i * 1300 ∧ acc.all id = true) ⟨Nat.zero_le _, rfl⟩ ?_ ?_
    · rintro i t acc n' e2 ⟨hn, hacc⟩ Q2 qq2
      have hi := (rgAt6 e2).1
      refine ri_w (by omega) fun n2 hn2 => qq2 _ _ ⟨by omega, ?_⟩
      rw [List.all_append, hacc]
      rfl
    · rintro acc n' ⟨hn, hacc⟩
      refine seq_skip (c := !acc.all id) (by rw [hacc]; rfl) ?_
      exact qq _ _ trivial
  · rintro ⟨⟩ n _
    have e : ("plan 2 1 1" : Str) = dueT 2 1 [] 1 := by decide +kernel
    have key : ∀ (n : Nat) (Q : T4 Nat Nat (List (List (List Nat))) Nat → Nat → Prop), Q ⟨2, 1, [], 1⟩ n → rplW "plan 2 1 1" n Q := fun n Q z => by
      rw [e]
      exact rpl_w ⟨by decide, by decide, by decide, by decide, by decide, fun b hb => (nomatch hb), by decide⟩ z
    refine key _ _ ?_
    refine ⟨by show 0 ≤ sizeLine; omega, ⟨shp _, shp _⟩, ?_⟩
    show PyData.eqv _ _ = true
    exact eqv_t rfl
end Bf
namespace Bf
open PySem PySem.Spec PyProof.Rows L2 LamX
/-- what is tracked at the law's call: the tables ts, empty; the script at a, locked, where it isn't written -/
def G0 (K : PySem.W.Frag) (ts : List Addr) (a : Addr) (ob : Obj) (xs : List V) : Hp := fun b =>
  if b ∈ ts then some (.tbl #[]) else if b = a ∧ (K.lookup a).isNone = true then some (.frz ob (.lst xs)) else none
section
variable {K : PySem.W.Frag} {ts : List Addr} {a b : Addr} {ob : Obj} {xs : List V}
theorem g0_tab (h : b ∈ ts) : G0 K ts a ob xs b = some (.tbl #[]) := if_pos h
theorem g0_scr (h : a ∉ ts) (n : K.lookup a = none) : G0 K ts a ob xs a = some (.frz ob (.lst xs)) := (if_neg h).trans (if_pos ⟨rfl, by rw [n]; rfl⟩)
theorem g0_some {u : HO} (h : G0 K ts a ob xs b = some u) : (b ∈ ts ∧ u = .tbl #[]) ∨ (b ∉ ts ∧ b = a ∧ K.lookup a = none ∧ u = .frz ob (.lst xs)) := by
  unfold G0 at h
  by_cases m : b ∈ ts
  · rw [if_pos m] at h
    exact .inl ⟨m, (Option.some.inj h).symm⟩
  · rw [if_neg m] at h
    by_cases c : b = a ∧ (K.lookup a).isNone = true
    · rw [if_pos c] at h
      exact .inr ⟨m, c.1, Option.isNone_iff_eq_none.mp c.2, (Option.some.inj h).symm⟩
    · rw [if_neg c] at h
      cases h
end
theorem law_tabs {P : Program} {w : World} {K : PySem.W.Frag} {mg mb : Str → Option Value} {k : Nat} {fa a : Addr} {cs : List (Addr × Addr)} {fd : FuncData} {x : Str} {sp : Sp} {z : Shared} {vs : List Value} {ns : List Int}
    (KI : K.In z.heap) (n1 : z.heap.Ns mainGlobals mg) (n2 : z.heap.Ns builtinsNs mb) (n3 : ∀ y : Str, y ≠ "__name__" → mb y = bootBuiltins y) (n4 : z.heap.NoLimit) (n5 : z.gens = #[])
    (t1 : ∀ p ∈ cs, z.heap.get? p.2 = some { cls := .none, data := .fields #[] }) (t2 : ∀ p ∈ cs, K.lookup p.2 = none) (t3 : ∀ p ∈ cs, PySem.W.CodeHd z.heap p.1 p.2)
    (t4 : ∃ (bm : Addr) (ob : Obj), mg "__builtins__" = some (.ref bm) ∧ bm ≠ builtinsNs ∧ z.heap.get? bm = some ob ∧ ob.cls = .type "module" ∧ ob.dict = some builtinsNs ∧ ob.data = .plain)
    (oa : z.heap.get? a = some { cls := .type "list", data := .seq vs.toArray }) (ia : IntsAre vs ns) (la : ns.length ≤ sizeLine) (rm : Room k callerA)
    (F : ∀ base : Heap, K.In base → base.Ns mainGlobals mg → (∀ p ∈ cs, TabB base mg p.1 p.2) → FnG P w K mg base k fa fd [x] sp) (bd : ∀ (s : Shared) (u : Value), BindsTo s fd ⟨[u], []⟩ [(x, u)])
    (hs : ∀ G : Hp, (∀ p ∈ cs, G p.2 = some (.tbl #[])) → SqL K G a (ns.map V.int) → sp [.ref a] G (fun v _ => v = .bl true) fun _ _ _ => False) :
    codeAny (model P w) callerA (.call (.ref fa) ⟨[.ref a], []⟩) (fun r y => r = .ok (.ret (.bool true)) ∧ OldK z.heap y.heap ∧ y.os = z.os ∧ AllBare y.gens) z := by
  have tm : ∀ b ∈ cs.map (·.2), ∃ p ∈ cs, p.2 = b := fun b h => by
    obtain ⟨p, hp, e⟩ := List.mem_map.mp h
    exact ⟨p, hp, e⟩
  have nat : a ∉ cs.map (·.2) := fun h => by
    obtain ⟨p, hp, e⟩ := tm a h
    have q := t1 p hp
    rw [e, oa] at q
    cases q
  generalize hG : G0 K (cs.map (·.2)) a { cls := .type "list", data := .seq vs.toArray } (ns.map V.int) = G
  have some' : ∀ {b u}, G b = some u → (b ∈ cs.map (·.2) ∧ u = .tbl #[]) ∨ (b ∉ cs.map (·.2) ∧ b = a ∧ K.lookup a = none ∧ u = .frz { cls := .type "list", data := .seq vs.toArray } (.lst (ns.map V.int))) := fun {b u} h => g0_some (hG ▸ h)
  have tabG : ∀ p ∈ cs, G p.2 = some (.tbl #[]) := fun p hp => hG ▸ g0_tab (List.mem_map.mpr ⟨p, hp, rfl⟩)
  have rv := vals_ints ia
  have sq : SqL K G a (ns.map V.int) := by
    cases e : K.lookup a with
    | none => exact .inl (.inr ⟨_, hG ▸ g0_scr nat e⟩)
    | some o =>
      have q := KI a o e
      rw [oa] at q
      cases q
      exact .inr ⟨_, vs.toArray, _, e, rfl, rfl, rfl, by rw [List.size_toArray, ia.length]; exact la, by simpa using rv⟩
  have ok : HOk P w G z.heap := fun b u e => by
    rcases some' e with ⟨m, rfl⟩ | ⟨_, rfl, _, rfl⟩
    · obtain ⟨p, hp, rfl⟩ := tm b m
      exact t1 p hp
    · exact ⟨oa, by rw [List.length_map]; exact la, vs, _, rv, oa⟩
  -- what is neither a list nor an empty table isn't tracked
  have off : ∀ {b : Addr} {o : Obj}, z.heap.get? b = some o → (∀ us n, o.data ≠ .seq us n) → o.data ≠ .fields #[] → G b = none := fun {b o} e d1 d2 => by
    cases q : G b with
    | none => rfl
    | some u =>
      rcases some' q with ⟨m, _⟩ | ⟨_, rfl, _, _⟩
      · obtain ⟨p, hp, rfl⟩ := tm b m
        rw [t1 p hp] at e
        cases e
        exact (d2 rfl).elim
      · rw [oa] at e
        cases e
        exact (d1 _ _ rfl).elim
  have stay : ∀ {b : Addr} {o : Obj}, z.heap.get? b = some o → (∀ us n, o.data ≠ .seq us n) → o.data ≠ .fields #[] → (hidT z.heap G).get? b = some o := fun e d1 d2 => hidT_get e (off e d1 d2)
  have nsB : ∀ {b : Addr} {m : Str → Option Value}, z.heap.Ns b m → (hidT z.heap G).Ns b m := fun ⟨o, es, ep, e, d, r⟩ => ⟨o, es, ep, stay e (fun us n y => by rw [d] at y; cases y) (fun y => by rw [d] at y; cases y), d, r⟩
  have inB : K.In (hidT z.heap G) := fun b o e => hidT_get (KI b o e) (by
    cases q : G b with
    | none => rfl
    | some u =>
      rcases some' q with ⟨m, _⟩ | ⟨_, rfl, n, _⟩
      · obtain ⟨p, hp, rfl⟩ := tm b m
        rw [t2 p hp] at e
        cases e
      · rw [n] at e
        cases e)
  have tbB : ∀ p ∈ cs, TabB (hidT z.heap G) mg p.1 p.2 := fun p hp => by
    refine ⟨?_, ?_, fun y => ?_⟩
    · obtain ⟨o, us, file, tf, flags, tg, inF, text, tt, e1, r1, r2, r3, rest⟩ := t3 p hp
      refine ⟨o, us, file, tf, flags, tg, inF, text, tt, stay e1 (fun us n y => by rw [r2] at y; cases y) (fun y => ?_), r1, r2, r3, rest⟩
      rw [r2] at y
      cases y
      simp at r3
    · obtain ⟨bm, om, b1, b2, b3, b4, b5, b6⟩ := t4
      refine ⟨bm, om, b1, b2, fun y => ?_, fun y => ?_, stay b3 (fun us n y => by rw [b6] at y; cases y) (fun y => by rw [b6] at y; cases y), b4, b5, b6⟩
      · obtain ⟨o, es, ep, e, d, _⟩ := n1
        rw [y, e] at b3
        cases b3
        rw [d] at b6
        cases b6
      · rw [y, t1 p hp] at b3
        cases b3
        cases b6
    · obtain ⟨o, es, ep, e, d, _⟩ := n1
      rw [y, t1 p hp] at e
      cases e
      cases d
  have md : L2.Mod K mg (hidT z.heap G) := ⟨inB, nsB n1, ⟨mb, nsB n2, n3⟩, let ⟨mc, c1, c2⟩ := n4; ⟨mc, nsB c1, c2⟩⟩
  have en : Env0 P w K mg (hidT z.heap G) callerA [] z G := ⟨rfl, md, fun _ _ e => of_hidT e, Nat.le_of_eq (hidT_size _ _), trivial, (fun b h => absurd (show b ∈ ([] : List Addr) from h) List.not_mem_nil), ok, .of_eq n5⟩
  refine codeAny_mono ((F _ inB (nsB n1) tbB).go callerA [] z G ⟨[.ref a], []⟩ [.ref a] [.ref a] _ _ rfl rm en (bd z (.ref a)) (.cons rfl .nil) (hs G tabG sq)) fun r y h => ?_
  match r, h with
  | .error _, h => exact h.elim
  | .ok .next, h => exact False.elim h
  | .ok .brk, h => exact False.elim h
  | .ok .cont, h => exact False.elim h
  | .ok (.ret u), h =>
    obtain ⟨v, G', e1, e2, un, ok', r', q⟩ := h
    obtain rfl : v = .bl true := q
    obtain rfl : u = Value.bool true := r'
    -- an object that stood before: a table may have grown, all else is as it was
    have old : ∀ b o, z.heap.get? b = some o → (b ∈ cs.map (·.2) ∧ ∃ more : Array Value, y.heap.get? b = some { cls := .none, data := .fields more }) ∨ y.heap.get? b = some o := fun b o e => by
      cases q : G b with
      | none => exact .inr (un.keep b o e q (fun h => absurd (show b ∈ ([] : List Addr) from h) List.not_mem_nil) List.not_mem_nil)
      | some u =>
        rcases some' q with ⟨m, rfl⟩ | ⟨_, rfl, _, rfl⟩
        · obtain ⟨more, g⟩ := un.tbls b #[] q
          exact .inl ⟨m, _, ok' b _ g⟩
        · rw [oa] at e
          cases e
          exact .inr (ok' b _ (un.frzs b _ _ q)).1
    refine ⟨rfl, ⟨fun b o e => ?_, fun b o e => ?_⟩, e1, e2⟩
    · rcases old b o e with ⟨m, more, g⟩ | g
      · obtain ⟨p, hp, rfl⟩ := tm b m
        rw [t1 p hp] at e
        cases e
        exact .inr (.inl ⟨((t3 p hp).tab (t1 p hp)).isCodeTable, rfl, #[], more, rfl, by rw [Array.empty_append]; exact g⟩)
      · exact .inl g
    · rcases old b o e with ⟨_, more, g⟩ | g
      · exact ⟨_, g⟩
      · exact ⟨o, g⟩
theorem walkTG {l : PySem.W.OpenLaw} {n k : Nat} {q : Program} {loose : List Str} {XP : (Str → Option Value) → Heap → Prop} {YP : World → Heap → Prop} {d : DefRec} {x : Str} (hn : l.most = some n) (hn2 : n ≤ sizeLine) (hdf : d.params.defaults = []) (rm : Room k callerA)
    (F : ∀ (w : World) (mg : Str → Option Value) (fa : Addr) (h : Heap), YP w h → h.Ns mainGlobals mg → mg d.name = some (.ref fa) → ∃ (K : PySem.W.Frag) (fd : FuncData) (cs : List (Addr × Addr)) (sp : Sp), K.In h ∧
      (∀ p ∈ cs, h.get? p.2 = some { cls := .none, data := .fields #[] }) ∧ (∀ p ∈ cs, K.lookup p.2 = none) ∧ (∀ p ∈ cs, PySem.W.CodeHd h p.1 p.2) ∧ (∀ (s : Shared) (u : Value), BindsTo s fd ⟨[u], []⟩ [(x, u)]) ∧
      (∀ (H : Hp) (a : Addr) (ns : List Int), ns.length ≤ n → (∀ p ∈ cs, H p.2 = some (.tbl #[])) → SqL K H a (ns.map V.int) → sp [.ref a] H (fun v _ => v = .bl true) fun _ _ _ => False) ∧
      ∀ base : Heap, K.In base → base.Ns mainGlobals mg → (∀ p ∈ cs, TabB base mg p.1 p.2) → FnG l.prog w K mg base k fa fd [x] sp) : PySem.W.WalkO q loose XP YP l.row.toRowW d [] (fun f vs => PySem.call f vs) := by
  refine Att.attach_call hn hdf fun w s₀ s₁ mg mb fa o pm cd doc a vs ns G Y ho hd hcd hmg hobj hints hlen hg => ?_
  obtain ⟨K, fd, cs, sp, KX, t1, t2, t3, t4, t5, t6⟩ := F w mg fa _ Y G.T.g hmg
  exact law_tabs KX G.T.g G.T.b G.T.builtins G.T.nolimit hg t1 t2 t3 G.T.bmain hobj hints (Nat.le_trans hlen hn2) rm t6 t4 (fun H hH hS => t5 H a ns hlen hH hS)
end Bf
namespace Bf
open PySem PySem.Spec PyProof.Rows L2 LamX NdefX
theorem fun_of {K : PySem.W.Frag} {x : Str} {st : Stmt} {f : Addr} {fd : FuncData} (F : FunD K x x (defArgs st) (defBody st) (defScope st) [] [] f fd) : Fun K x x st f fd := by
  obtain ⟨oc, od, dV, kV, doc, pm, an, cdv, ct, osl, e, lk, hcd, hD, hK⟩ := F.ex
  rcases hD with ⟨_, rfl⟩ | ⟨z, _⟩
  · exact ⟨⟨oc, od, kV, doc, pm, an, cdv, ct, osl, e, lk, hcd⟩, F.kp⟩
  · exact absurd rfl z
theorem facts {l : PySem.W.OpenLaw} {w : World} {K : PySem.W.Frag} {h : Heap} {mg : Str → Option Value} {fa : Addr} (X : K.In h) (G : h.Ns mainGlobals mg) (hfa : mg ("law" : Str) = some (.ref fa)) (c : He.SaysX faL fnL [] tfL (fun _ => true) w h K) : ∃ (fd : FuncData) (cs : List (Addr × Addr)) (sp : Sp),
      (∀ p ∈ cs, h.get? p.2 = some { cls := .none, data := .fields #[] }) ∧ (∀ p ∈ cs, K.lookup p.2 = none) ∧ (∀ p ∈ cs, PySem.W.CodeHd h p.1 p.2) ∧ (∀ (s : Shared) (u : Value), BindsTo s fd ⟨[u], []⟩ [("_law_script", u)]) ∧
      (∀ (H : Hp) (a : Addr) (ns : List Int), ns.length ≤ 63 → (∀ p ∈ cs, H p.2 = some (.tbl #[])) → SqL K H a (ns.map V.int) → sp [.ref a] H (fun v _ => v = .bl true) fun _ _ _ => False) ∧
      ∀ base : Heap, K.In base → base.Ns mainGlobals mg → (∀ p ∈ cs, TabB base mg p.1 p.2) → FnG l.prog w K mg base 7 fa fd ["_law_script"] sp := by
  have cd := c.t.d
  obtain ⟨e0, F0⟩ := cd.def_ 0 (d := dd0) rfl
  have g0 := He.glo_ok X G (cd.fact 0 (f := .glo "spelt") rfl)
  obtain ⟨e1, F1⟩ := cd.def_ 1 (d := dd1) rfl
  have g1 := He.glo_ok X G (cd.fact 1 (f := .glo "show_plan") rfl)
  obtain ⟨e2, F2⟩ := cd.def_ 2 (d := dd2) rfl
  have g2 := He.glo_ok X G (cd.fact 2 (f := .glo "number_in") rfl)
  obtain ⟨e3, F3⟩ := cd.def_ 3 (d := dd3) rfl
  have g3 := He.glo_ok X G (cd.fact 3 (f := .glo "numbers_in") rfl)
  obtain ⟨e4, F4⟩ := cd.def_ 4 (d := dd4) rfl
  have g4 := He.glo_ok X G (cd.fact 4 (f := .glo "rows_of") rfl)
  obtain ⟨e5, F5⟩ := cd.def_ 5 (d := dd5) rfl
  have g5 := He.glo_ok X G (cd.fact 5 (f := .glo "words_at") rfl)
  obtain ⟨e6, F6⟩ := cd.def_ 6 (d := dd6) rfl
  have g6 := He.glo_ok X G (cd.fact 6 (f := .glo "numbers_at") rfl)
  obtain ⟨e7, F7⟩ := cd.def_ 7 (d := dd7) rfl
  have g7 := He.glo_ok X G (cd.fact 7 (f := .glo "read_plan") rfl)
  obtain ⟨e8, F8⟩ := cd.def_ 8 (d := dd8) rfl
  have g8 := He.glo_ok X G (cd.fact 8 (f := .glo "beat_in") rfl)
  obtain ⟨e9, F9⟩ := cd.def_ 9 (d := dd9) rfl
  have g9 := He.glo_ok X G (cd.fact 9 (f := .glo "telling_in") rfl)
  obtain ⟨e10, F10⟩ := cd.def_ 10 (d := dd10) rfl
  have g10 := He.glo_ok X G (cd.fact 10 (f := .glo "can_be") rfl)
  obtain ⟨e11, F11⟩ := cd.def_ 11 (d := dd11) rfl
  have g11 := He.glo_ok X G (cd.fact 11 (f := .glo "_law_pot") rfl)
  obtain ⟨e12, F12⟩ := cd.def_ 12 (d := dd12) rfl
  have g12 := He.glo_ok X G (cd.fact 12 (f := .glo "_law_take") rfl)
  obtain ⟨e13, F13⟩ := cd.def_ 13 (d := dd13) rfl
  have g13 := He.glo_ok X G (cd.fact 13 (f := .glo "_law_of") rfl)
  obtain ⟨e14, F14⟩ := cd.def_ 14 (d := dd14) rfl
  have g14 := He.glo_ok X G (cd.fact 14 (f := .glo "_law_beat") rfl)
  obtain ⟨e15, F15⟩ := cd.def_ 15 (d := dd15) rfl
  have g15 := He.glo_ok X G (cd.fact 15 (f := .glo "_law_row") rfl)
  obtain ⟨e16, F16⟩ := cd.def_ 16 (d := dd16) rfl
  have g16 := He.glo_ok X G (cd.fact 16 (f := .glo "_law_right") rfl)
  obtain ⟨e17, F17⟩ := cd.def_ 17 (d := dd17) rfl
  have g17 := He.glo_ok X G (cd.fact 17 (f := .glo "law") rfl)
  have m0 := He.free_ok X G (cd.fact 18 (f := .free "len") rfl)
  have m1 := He.free_ok X G (cd.fact 19 (f := .free "tuple") rfl)
  have m2 := He.free_ok X G (cd.fact 20 (f := .free "list") rfl)
  have m3 := He.free_ok X G (cd.fact 21 (f := .free "range") rfl)
  have m4 := He.free_ok X G (cd.fact 22 (f := .free "min") rfl)
  have m5 := He.free_ok X G (cd.fact 23 (f := .free "max") rfl)
  have m6 := He.free_ok X G (cd.fact 24 (f := .free "abs") rfl)
  have m7 := He.free_ok X G (cd.fact 25 (f := .free "int") rfl)
  have m8 := He.free_ok X G (cd.fact 26 (f := .free "all") rfl)
  have m9 := He.free_ok X G (cd.fact 27 (f := .free "any") rfl)
  have m10 := He.free_ok X G (cd.fact 28 (f := .free "zip") rfl)
  have m11 := He.free_ok X G (cd.fact 29 (f := .free "enumerate") rfl)
  have m12 := He.free_ok X G (cd.fact 30 (f := .free "reversed") rfl)
  have m13 := He.free_ok X G (cd.fact 31 (f := .free "repr") rfl)
  have m14 := He.free_ok X G (cd.fact 32 (f := .free "sorted") rfl)
  have m15 := He.free_ok X G (cd.fact 33 (f := .free "sum") rfl)
  have m16 := He.free_ok X G (cd.fact 34 (f := .free "set") rfl)
  have m17 := He.free_ok X G (cd.fact 35 (f := .free "isinstance") rfl)
  have m18 := He.free_ok X G (cd.fact 36 (f := .free "bool") rfl)
  have m19 := He.free_ok X G (cd.fact 37 (f := .free "str") rfl)
  have z0 := He.int_ok X G (cd.fact 38 (f := .int "MOST_FIGURES" 9) rfl)
  have z1 := He.int_ok X G (cd.fact 39 (f := .int "MOST_BEATS" 200) rfl)
  have z2 := He.int_ok X G (cd.fact 40 (f := .int "MOST_HANDS" 64) rfl)
  have z3 := He.int_ok X G (cd.fact 41 (f := .int "MOST_LETTERS" 60) rfl)
  have ee := hfa.symm.trans g17
  cases ee
  have bL := FunD.bindsA (ps := ["_law_script"]) F17 fun _ _ _ _ _ _ us hl => match us, hl with | [_], _ => rfl
  refine ⟨e17, [], spLaw K, fun p hp => absurd hp List.not_mem_nil, fun p hp => absurd hp List.not_mem_nil, fun p hp => absurd hp List.not_mem_nil, fun s v => bL s [v] rfl, fun H a ns hl hH hS => ⟨a, ns, rfl, hS, hl, fun _ => rfl⟩, fun base _ _ TB => ?_⟩
  · skip
    have f0 := fun_of (st := sSpt) F0
    have b0 := f0.binds (ps := ["some"]) fun _ _ _ _ _ _ us hl => match us, hl with | [_], _ => rfl
    have f1 : FunS K "show_plan" sShp _ e1 := F1
    have f2 := fun_of (st := sNin) F2
    have b2 := f2.binds (ps := ["word"]) fun _ _ _ _ _ _ us hl => match us, hl with | [_], _ => rfl
    have f3 := fun_of (st := sNis) F3
    have b3 := f3.binds (ps := ["words"]) fun _ _ _ _ _ _ us hl => match us, hl with | [_], _ => rfl
    have f4 := fun_of (st := sRof) F4
    have b4 := f4.binds (ps := ["text"]) fun _ _ _ _ _ _ us hl => match us, hl with | [_], _ => rfl
    have f5 := fun_of (st := sWat) F5
    have b5 := f5.binds (ps := ["rows", "at", "first"]) fun _ _ _ _ _ _ us hl => match us, hl with | [_, _, _], _ => rfl
    have f6 := fun_of (st := sNat) F6
    have b6 := f6.binds (ps := ["rows", "at", "first", "many"]) fun _ _ _ _ _ _ us hl => match us, hl with | [_, _, _, _], _ => rfl
    have f7 := fun_of (st := sRpl) F7
    have b7 := f7.binds (ps := ["text"]) fun _ _ _ _ _ _ us hl => match us, hl with | [_], _ => rfl
    have f8 := fun_of (st := sBin) F8
    have b8 := f8.binds (ps := ["words", "hands", "m"]) fun _ _ _ _ _ _ us hl => match us, hl with | [_, _, _], _ => rfl
    have f9 := fun_of (st := sTin) F9
    have b9 := f9.binds (ps := ["word"]) fun _ _ _ _ _ _ us hl => match us, hl with | [_], _ => rfl
    have f10 := fun_of (st := sCab) F10
    have b10 := f10.binds (ps := ["telling", "hands", "m"]) fun _ _ _ _ _ _ us hl => match us, hl with | [_, _, _], _ => rfl
    have f11 := fun_of (st := sPot) F11
    have b11 := f11.binds (ps := ["_law_script", "_law_k"]) fun _ _ _ _ _ _ us hl => match us, hl with | [_, _], _ => rfl
    have f12 := fun_of (st := sTake) F12
    have b12 := f12.binds (ps := ["_law_pot_here", "_law_size"]) fun _ _ _ _ _ _ us hl => match us, hl with | [_, _], _ => rfl
    have f13 := fun_of (st := sOf) F13
    have b13 := f13.binds (ps := ["_law_pot_here", "_law_some"]) fun _ _ _ _ _ _ us hl => match us, hl with | [_, _], _ => rfl
    have f14 := fun_of (st := sBea) F14
    have b14 := f14.binds (ps := ["_law_pot_here", "_law_people", "_law_count"]) fun _ _ _ _ _ _ us hl => match us, hl with | [_, _, _], _ => rfl
    have f15 := fun_of (st := sLro) F15
    have b15 := f15.binds (ps := ["_law_beat_here"]) fun _ _ _ _ _ _ us hl => match us, hl with | [_], _ => rfl
    have f16 := fun_of (st := sRi) F16
    have b16 := f16.binds (ps := ["_law_pot_here"]) fun _ _ _ _ _ _ us hl => match us, hl with | [_], _ => rfl
    have f17 := fun_of (st := sLaw) F17
    have b : Bls2 mg := ⟨⟨m0, m1, m2, m3, m4, m5, m6, m7, m8, m9, m10, m11, m12, m13, m14, m15, m16⟩, m17, m18⟩
    have k_b_str := m19
    have k_MOST_FIGURES := z0
    have k_MOST_BEATS := z1
    have k_MOST_HANDS := z2
    have k_MOST_LETTERS := z3
    have c_spt : CalF l.prog w K mg base 1 "spelt" _ _ ["some"] (spW1 K ([] : List (Addr × Str)) sptW) := ⟨ok_spt f0 b  k_b_str, f0.kp, b0, g0⟩
    have c_shp : CalS l.prog w K mg base 2 "show_plan" _ _ ["hands", "m", "plan", "source"] (spW4 K ([] : List (Addr × Str)) shpW) := ⟨ok_shp f1 b c_spt, f1.kp, g1⟩
    have q_shp_3_0123 := kbN (n := 3) (m := 1) (π := [0, 1, 2, 3]) (ps := ["hands", "m", "plan", "source"]) (ks := ["source"]) f1 (by decide) rfl fun _ _ _ _ _ _ us ws h1 h2 => match us, ws, h1, h2 with | [_, _, _], [_], _, _ => rfl
    have q_shp_0_2310 := kbN (n := 0) (m := 4) (π := [2, 3, 1, 0]) (ps := ["hands", "m", "plan", "source"]) (ks := ["source", "plan", "hands", "m"]) f1 (by decide) rfl fun _ _ _ _ _ _ us ws h1 h2 => match us, ws, h1, h2 with | [], [_, _, _, _], _, _ => rfl
    have q_shp_d : ∃ ds, Vals [V.int 0] ds ∧ Binds K e1 ["hands", "m", "plan", "source"] ds := by
      obtain ⟨ds, v, b⟩ := FunD.binds0 (ps := ["hands", "m", "plan", "source"]) f1 3 (by simp) rfl (fun D doc pm an cdv ct us ks hu hk => match us, ks, hu, hk with | [_, _, _], [_], _, _ => ⟨_, _, _, _, _, _, rfl, rfl, rfl⟩)
      exact ⟨ds, v, b⟩
    have c_nin : CalF l.prog w K mg base 1 "number_in" _ _ ["word"] (spW1 K ([] : List (Addr × Str)) ninW) := ⟨ok_nin f2 b  k_MOST_FIGURES, f2.kp, b2, g2⟩
    have c_nis : CalF l.prog w K mg base 2 "numbers_in" _ _ ["words"] (spW1 K ([] : List (Addr × Str)) nisW) := ⟨ok_nis f3 b c_nin, f3.kp, b3, g3⟩
    have c_nit : CalF l.prog w K mg base 2 "numbers_in" _ _ ["words"] (spW1 K ([] : List (Addr × Str)) nitW) := ⟨ok_nit f3 b c_nin, f3.kp, b3, g3⟩
    have c_rof : CalF l.prog w K mg base 1 "rows_of" _ _ ["text"] (spW1 K ([] : List (Addr × Str)) rofW) := ⟨ok_rof f4 b  k_b_str, f4.kp, b4, g4⟩
    have c_wat : CalF l.prog w K mg base 1 "words_at" _ _ ["rows", "at", "first"] (spW3 K ([] : List (Addr × Str)) watW) := ⟨ok_wat f5 b , f5.kp, b5, g5⟩
    have c_nat : CalF l.prog w K mg base 3 "numbers_at" _ _ ["rows", "at", "first", "many"] (spW4 K ([] : List (Addr × Str)) natW) := ⟨ok_nat f6 b c_nis c_wat, f6.kp, b6, g6⟩
    have c_tin : CalF l.prog w K mg base 3 "telling_in" _ _ ["word"] (spW1 K ([] : List (Addr × Str)) tinW) := ⟨ok_tin f9 b c_nit, f9.kp, b9, g9⟩
    have c_cab : CalF l.prog w K mg base 1 "can_be" _ _ ["telling", "hands", "m"] (spW3 K ([] : List (Addr × Str)) cabW) := ⟨ok_cab f10 b , f10.kp, b10, g10⟩
    have c_bin : CalF l.prog w K mg base 4 "beat_in" _ _ ["words", "hands", "m"] (spW3 K ([] : List (Addr × Str)) binW) := ⟨ok_bin f8 b c_cab c_tin, f8.kp, b8, g8⟩
    have c_rpl : CalF l.prog w K mg base 5 "read_plan" _ _ ["text"] (spW1 K ([] : List (Addr × Str)) rplW) := ⟨ok_rpl f7 b c_bin c_nat c_rof c_wat k_MOST_BEATS k_MOST_HANDS k_MOST_LETTERS, f7.kp, b7, g7⟩
    have q_rpl_0_0 := kbM (n := 0) (m := 1) (π := [0]) (ps := ["text"]) (ks := ["text"]) f7 (by decide) rfl fun _ _ _ _ _ _ us ws h1 h2 => match us, ws, h1, h2 with | [], [_], _, _ => rfl
    have c_urn : CalF l.prog w K mg base 1 "_law_pot" _ _ _ (spPot K) := ⟨ok_pot f11 m0 m6 m7, f11.kp, b11, g11⟩
    have GT0 : FnOk l.prog w K mg base CX0 1 _ _ _ spTake := ok_take f12
    have c_take : CalF l.prog w K mg base 1 "_law_take" _ _ _ (spP1 K ([] : List (Addr × Str)) takeW) := ⟨ad_take GT0, f12.kp, b12, g12⟩
    have c_of : ∀ {α : Type} [Enc α] [Pu α], CalF l.prog w K mg base 2 "_law_of" _ _ _ (spP1 K ([] : List (Addr × Str)) (ofW (α := α))) := fun {α} _ _ => ⟨ad_of (ok_of f13 GT0 f12.kp b12 g12 m0), f13.kp, b13, g13⟩
    have c_bea : CalF l.prog w K mg base 2 "_law_beat" _ _ ["_law_pot_here", "_law_people", "_law_count"] (spP2 K ([] : List (Addr × Str)) beaW) := ⟨ok_bea f14 b c_take, f14.kp, b14, g14⟩
    have c_lro : CalF l.prog w K mg base 1 "_law_row" _ _ ["_law_beat_here"] (spW1 K ([] : List (Addr × Str)) lroW) := ⟨ok_lro f15 b  k_b_str, f15.kp, b15, g15⟩
    have c_ri : CalG l.prog w K mg base 6 "_law_right" _ _ ["_law_pot_here"] (spP0 K ([] : List (Addr × Str)) riW) := ⟨ok_ri f16 b c_bea c_lro c_of c_rpl c_shp c_take q_shp_d q_shp_3_0123 q_rpl_0_0 q_shp_0_2310 k_b_str, f16.kp, b16, g16⟩
    exact ok_law f17 b c_ri c_rpl c_urn law_win
end Bf
open PySem PySem.W PySem.Calls PyProof.Rows
set_option maxHeartbeats 0 in
theorem PySem.Challenge.cw_beatferry_k66_plans_as_texts_holds : PySem.Challenge.rw_beatferry_k66_plans_as_texts.Holds := by
  w_on; o_law
  refine HandSHeadRun.head_any (r := OpenLaw.row PySem.Challenge.rw_beatferry_k66_plans_as_texts) (q := view (OpenLaw.row PySem.Challenge.rw_beatferry_k66_plans_as_texts).prog [27]) (H := Bf.hkL) (ob := Bf.obL) (M := 5000) (loose := ["NotSo", "NoText", "spelt", "show_plan", "number_in", "numbers_in", "rows_of", "words_at", "numbers_at", "read_plan", "beat_in", "telling_in", "can_be", "_law_pot", "_law_take", "_law_of", "_law_beat", "_law_row", "_law_right", "MOST_FIGURES", "MOST_BEATS", "MOST_HANDS", "MOST_LETTERS"]) (d := HandSHeadRun.topDef (OpenLaw.row PySem.Challenge.rw_beatferry_k66_plans_as_texts).prog 27) (kwd := []) Bf.obL_eq
    (by kernel_rfl) (fun s => by kernel_rfl) Bf.runL (by kernel_rfl) (by kernel_rfl) (by kernel_rfl) (by rfl) (by first | assumption | decide +kernel) (by decide +kernel) ⟨rfl, rfl, rfl, rfl, rfl, by decide +kernel⟩ ?hw ?hc
  case hw => w_witness2
  case hc =>
    refine Bf.walkTG (l := PySem.Challenge.rw_beatferry_k66_plans_as_texts) (n := 63) (k := 7) (x := "_law_script") rfl (by decide) (by kernel_rfl) ⟨rfl, by decide, by decide⟩ ?F
    intro w mg fa h Y G hmg0
    obtain ⟨K, KX, c⟩ := Y
    have hmg : mg ("law" : PySem.Str) = some (.ref fa) := by
      have e : (HandSHeadRun.topDef (OpenLaw.row PySem.Challenge.rw_beatferry_k66_plans_as_texts).prog 27).name = ("law" : PySem.Str) := by kernel_rfl
      rw [← e]
      exact hmg0
    obtain ⟨fd, cs, sp, h1, h2, h3, h4, h5, h6⟩ := Bf.facts (l := PySem.Challenge.rw_beatferry_k66_plans_as_texts) (w := w) KX G hmg c; exact ⟨K, fd, cs, sp, KX, h1, h2, h3, h4, h5, h6⟩
