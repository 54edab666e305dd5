import PyProof.Rows.All
import Wide.All
import OpenK.AllK
import Wide.FinOn
import HandS.Base
import HandS.Exc
import HandS.ExcInit
import HandS.ExcIs
import HandS.ExcField
import KE.KTryMore
import HandS.Words
import HandS.Defaults
import HandS.ForMost
import HandS.More
import HandS.Wide
import HandS.WideBits
import HandS.TupAny
import HandS.TupMul
import HandS.Style
import HandS.RaiseMore
import KE.SortKeyHeap
import KE.KLam
import HandS.SortKw
import HandS.Lambda
import HandS.Nested
import HandS.EndTab
import HandS.Conv
import HandS.Zip
import HandS.Walk
import HandS.Comp
import HandS.Rev
import HandS.Iter
import KE.GoesMore
import HandS.Flow
import HandS.HeadHook1
import HandS.ExcValue
import HandS.SortInts
import HandS.RevRange
import HandS.SetFor
import HandS.Strs
import HandS.IsInst
import HandS.TupLe
import KE.DataMinKey
import HandS.Small
import KE.GoesEnum
import KE.KSliceW
import HandS.List
import HandS.TupSets
import HandS.SortOrd
import HandS.DictComp
import HandS.Dict
import HandS.SetKeys
import PyProof.DictMoreH
import HandS.MakeKw
import HandS.MakeKwOnly
import HandS.OwnEq
import HandS.DictTup
import HandS.Deep
import KE.KDictWalk
import PyProof.InstNe
import KE.KDictItemsList
import KE.KDictCopyH
import KE.KDictPairs
import PyProof.DictUpdate
import HandS.ListItems
import KE.KDictDisplayH
import PyProof.Rows.TupDisplay
import HandS.NamedTupSort
import KE.KSortTup
import HandS.SetBool
import HandS.Text
import HandS.StrMore
import HandS.FStr
import KE.KUnpackStar
import KE.KUnpack
import HandS.ExcOwn
import HandS.TryOnly
import HandS.WordsExc
import PyProof.ExcBaseAll.LookupError
import PyProof.ReprReads
import PyProof.ReprRoads
import PyProof.FactsAll.dict_2
import HandS.ForExc
import PyProof.Rows.IntBool
import KE.KExcInit
import HandS.Head0
import HandS.Head1
import HandS.Head2
import HandS.HeadEnd
import HandS.HeadHook2
import HandS.HeadHook4
import PySem.Challenge.RW_beatferry_k64_refusals_by_themselves
set_option Elab.async false
set_option linter.all false
set_option maxRecDepth 100000
set_option maxHeartbeats 4000000
namespace Bf
open PySem PySem.Spec PyProof.Rows L2
end Bf
namespace Bf
open PySem PySem.Spec PyProof.Rows L2
/-! ## what the written part says of an error's class: to be asked of the head -/
def exqF (a b : Option (Option Value)) : Bool := decide (a = b)
def oexB (K : PySem.W.Frag) (C : Addr) : Bool := match K.lookup C with
  | some ⟨.type "type", _, .cls cd, sl⟩ => (match cd.mro, sl.toList with
    | .ref C' :: bm, [_, _, _, _, some (.builtin n), _] => C' == C && (n == "ValueError.__new__" && (!cd.hasDel && (cd.hasDict && HandSPX.refsVE bm)))
    | _, _ => false)
  | _ => false
def errB (K : PySem.W.Frag) (C fI : Addr) (f : Str) : Bool :=
  oexB K C && (exqF (PySem.W.findIn K (.ref C) "__setattr__") (some (some (.builtin "object.__setattr__"))) && (decide (PySem.W.typeIn K (.ref C) = some (.type "type")) && (PySem.W.keepIn K (.ref C) && (xfB K C &&
  (exqF (PySem.W.findIn K (.ref C) f) (some none) && (exqF (PySem.W.findIn K (.ref C) "__init__") (some (some (.ref fI))) && (decide (PySem.W.typeIn K (.ref fI) = some (.type "function")) &&
  (exqF (PySem.W.findIn K (.ref C) "__class__") (some (some (.builtin "object.__class__"))) && (exqF (PySem.W.specialIn K (.builtin "object.__class__") "__get__") (some (some (.builtin "getset_descriptor.__get__"))) &&
  (decide (PySem.W.takesIn K (.builtin "object.__class__") = some true) && decide (PySem.W.mroIn K C (.type "object") = some true)))))))))))
structure ErK (K : PySem.W.Frag) (C fI : Addr) (f : Str) : Prop where
  oe : OexC K C
  xf : XfC K C
  no : PySem.W.findIn K (.ref C) f = some none
  iC : PySem.W.findIn K (.ref C) "__init__" = some (some (.ref fI))
  tI : PySem.W.typeIn K (.ref fI) = some (.type "function")
  ec : ExcC K C
theorem oexB_ok {K : PySem.W.Frag} {C : Addr} (q : oexB K C = true) : ∃ nm qn N bs bm sn sub ab col dd k0 k1 k2 k3 k5, K.lookup C = some (excClassObj nm qn C N bs bm true sn sub ab col dd k0 k1 k2 k3 k5 "ValueError.__new__") ∧ PySem.HandSPX.refsVE bm = true := by
  unfold oexB at q
  split at q
  · rename_i dd cd sl ho
    split at q
    · rename_i C' bm k0 k1 k2 k3 n k5 hm hs
      simp only [Bool.and_eq_true, beq_iff_eq, Bool.not_eq_true'] at q
      obtain ⟨rfl, rfl, hdel, hdd, hr⟩ := q
      obtain ⟨nm, bs, mro, ns, qn, hd, sn, sub, ab, col, del⟩ := cd
      dsimp only at hm hdel hdd
      subst hm hdel hdd
      have hsl : sl = #[k0, k1, k2, k3, some (.builtin "ValueError.__new__"), k5] := by
        obtain ⟨l⟩ := sl
        simp only at hs
        rw [hs]
      subst hsl
      exact ⟨nm, qn, ns, bs, bm, sn, sub, ab, col, dd, k0, k1, k2, k3, k5, ho, hr⟩
    · cases q
  · cases q
theorem exqF_ok {a b : Option (Option Value)} (h : exqF a b = true) : a = b := of_decide_eq_true h
theorem errB_ok {K : PySem.W.Frag} {C fI : Addr} {f : Str} (h : errB K C fI f = true) : ErK K C fI f := by
  unfold errB at h
  obtain ⟨h1, h⟩ := Bool.and_eq_true_iff.mp h
  obtain ⟨h2, h⟩ := Bool.and_eq_true_iff.mp h
  obtain ⟨h3, h⟩ := Bool.and_eq_true_iff.mp h
  obtain ⟨h4, h⟩ := Bool.and_eq_true_iff.mp h
  obtain ⟨h5, h⟩ := Bool.and_eq_true_iff.mp h
  obtain ⟨h6, h⟩ := Bool.and_eq_true_iff.mp h
  obtain ⟨h7, h⟩ := Bool.and_eq_true_iff.mp h
  obtain ⟨h8, h⟩ := Bool.and_eq_true_iff.mp h
  obtain ⟨h9, h⟩ := Bool.and_eq_true_iff.mp h
  obtain ⟨h10, h⟩ := Bool.and_eq_true_iff.mp h
  obtain ⟨h11, h12⟩ := Bool.and_eq_true_iff.mp h
  have xf := xfB_ok h5
  exact ⟨⟨oexB_ok h1, exqF_ok h2, xf.exC, of_decide_eq_true h3, h4⟩, xf, exqF_ok h6, exqF_ok h7, of_decide_eq_true h8, ⟨xf.ga, xf.gg, xf.exC, xf.hdC, exqF_ok h9, exqF_ok h10, of_decide_eq_true h11, of_decide_eq_true h12⟩⟩
end Bf
namespace Bf
open PySem PySem.Spec PyProof.Rows L2
def topS (i : Nat) : Stmt := PySem.Challenge.pw_beatferry_k64_refusals_by_themselves.main.body.getD i (.Pass ⟨0, 0, 0, 0⟩)
abbrev sIniNoInverse : Stmt := inClass (topS 3) 0
abbrev sIniTooFew : Stmt := inClass (topS 4) 0
abbrev sIniBadNumbers : Stmt := inClass (topS 5) 0
abbrev sIniBadHouse : Stmt := inClass (topS 6) 0
abbrev sIniBadRows : Stmt := inClass (topS 7) 0
abbrev sIniNoNumber : Stmt := inClass (topS 8) 0
abbrev sIniNoText : Stmt := inClass (topS 9) 0
abbrev sIniNoLine : Stmt := inClass (topS 10) 0
abbrev sIniEarly : Stmt := inClass (topS 11) 0
abbrev sIniBad : Stmt := inClass (topS 13) 0
abbrev sIniNoHand : Stmt := inClass (topS 14) 0
abbrev sIniNoBit : Stmt := inClass (topS 15) 0
abbrev sIniNoLetter : Stmt := inClass (topS 16) 0
abbrev sIniNoTree : Stmt := inClass (topS 17) 0
abbrev sPot : Stmt := topS 21
abbrev sTake : Stmt := topS 22
abbrev sOf : Stmt := topS 23
abbrev sOdd : Stmt := topS 24
abbrev sUnd : Stmt := topS 25
abbrev sFam : Stmt := topS 26
abbrev sLaw : Stmt := topS 27
end Bf
namespace Bf
open PySem PySem.Spec PyProof.Rows L2

/-! ### defs whose calls stand under no repr -/
structure FnG (P : Program) (w : World) (K : PySem.W.Frag) (mg : Str → Option Value) (base : Heap) (k : Nat) (f : Addr) (fd : FuncData) (ps : List Str) (sp : Sp) : Prop where
  len : ∀ vs H Q E, sp vs H Q E → vs.length = ps.length
  go : ∀ (A : Around) (outer : List Env) (s : Shared) (H : Hp) (args : Args) (us : List Value) (vs : List V) (Q : VK) (E : XK), A.guards = some [] → Room k A →
    Env0 P w K mg base A outer s H → BindsTo s fd args (ps.zip us) → Vals vs us → sp vs H Q E → codeAny (model P w) A (.call (.ref f) args) (CR CX0 outer P w H s Q E) s

theorem fnG_of {P : Program} {w : World} {K : PySem.W.Frag} {mg : Str → Option Value} {base : Heap} {x qual : Str} {st : Stmt} {f : Addr} {fd : FuncData} {N ps : List Str} {k : Nat} {sp : Sp}
    (F : Fun K x qual st f fd) (S : FnScope N ps (defScope st)) (len : ∀ vs H Q E, sp vs H Q E → vs.length = ps.length)
    (body : ∀ (cdv : Value) (A : Around) (outer : List Env) (s : Shared) (H : Hp) (vs : List V) (Q : VK) (E : XK), (A.deeper (envOfC qual (defScope st) s.heap.objs.size f cdv)).guards = some [] →
      Room k (A.deeper (envOfC qual (defScope st) s.heap.objs.size f cdv)) → sp vs H Q E →
      ∃ t, PSs (cxOf CX0 P w K mg base N qual (defScope st) f cdv A outer s H E).nox (defBody st) t ∧ t { nx := fun _ H' => Q .non H', rt := Q } (start N vs) H) : FnG P w K mg base (k + 1) f fd ps sp := by
  obtain ⟨oc, od, kV, doc, pm, an, cdv, ct, osl, rfl, lk, hcd⟩ := F.ex
  refine ⟨len, fun B out s G args us vs Q E gd rm en hb rl hs => ?_⟩
  have ln := len _ _ _ _ hs
  have kx : K.In s.heap := en.mod.kin.keeps fun b o e => (en.bs b o e).1
  have nl : s.heap.NoLimit := en.mod.nolimit.keeps fun b o e => (en.bs b o e).1
  have kinds : ∀ y ∈ ps.zip us, (defScope st).names.lookup y.1 = some .local ∨
      ((defScope st).names.lookup y.1 = some .cell ∧ ((cellsFrom (s.heap.objs.size + 1) (defScope st).names []).lookup y.1).isSome = true) := fun ⟨n, v⟩ hy =>
    (S.par n (List.of_mem_zip hy).1).elim (fun q => .inl q) fun q => .inr ⟨q, PySem.W.cellsFrom_some _ _ _ (.inl q)⟩
  refine codeAny_call_function rm.depth (kx _ _ lk) rfl S.co S.gen rfl (PySem.W.codeRec_of kx hcd) (hb _ _ _ _ ?_)
  refine wpAny_newFunctionEnv_cells S.kind kinds fun env he s1 x1 => ?_
  subst he
  refine ⟨nl.keeps x1.toInCall.keep, codeAny_func ?_⟩
  obtain ⟨t, ht, hq⟩ := body cdv B out s G vs Q E gd (rm.deeper _) hs
  have J0 : Inv (cxOf CX0 P w K mg base N qual (defScope st) f cdv B out s G E) [] (start N vs) G s1 := inv_start S rm.hd en ln rl x1
  refine wpAny_mono (ht.nox.run [] s1 (start N vs) G _ J0 hq) (fun fl s' hs' => ?_) fun e s' hs' => hs'
  cases fl with
  | ret u => exact let ⟨v, _, H', J, rv, q⟩ := hs'; ⟨v, H', J.os, J.bare, J.base, J.hok, rv, q⟩
  | next => exact let ⟨_, H', J, q⟩ := hs'; ⟨V.non, H', J.os, J.bare, J.base, J.hok, rfl, q⟩
  | brk => exact let ⟨_, _, _, q⟩ := hs'; False.elim q
  | cont => exact let ⟨_, _, _, q⟩ := hs'; False.elim q

section
variable {X : Cx} {x : Str} {p pos : Pos} {e : Expr} {es : List Expr} {t : TA} {k : Nat} {f : Addr} {fd : FuncData} {ps : List Str} {sp : Sp} {ds : List Value} {dvs : List V} {E : XK}
/-! ### repr of data -/
/-! ### calls by names alone -/
/-! ### t[::-1], t a tuple -/
end
section
variable {prog : Program} {w : World} {A : Around} {E : Value → Shared → Prop} {s : Shared}
end
section
variable {X : Cx} {x : Str} {p pos : Pos} {e : Expr} {es : List Expr} {t : TA} {k : Nat} {f : Addr} {fd : FuncData} {ps : List Str} {sp : Sp} {ds : List Value} {dvs : List V} {E : XK}
/-! ### t * k, whatever t is -/
end
end Bf
namespace Bf
open PySem PySem.W PyProof.Rows
/-! ### sorted(t, key=f), f's calls keep all, the frames up to their slots -/
def KS (fs : List Addr) (h h' : Heap) : Prop := ∀ b o, h.get? b = some o → (b ∉ fs → h'.get? b = some o) ∧ ∃ sl, h'.get? b = some { o with slots := sl }
theorem KS.trans {fs : List Addr} {h h' h'' : Heap} (x : KS fs h h') (y : KS fs h' h'') : KS fs h h'' := fun b o e => by
  obtain ⟨x1, sl, x2⟩ := x b o e
  refine ⟨fun n => (y b o (x1 n)).1 n, ?_⟩
  obtain ⟨_, sl2, y2⟩ := y b _ x2
  exact ⟨sl2, y2⟩
theorem KS.of {fs : List Addr} {h h' : Heap} (x : ∀ b o, h.get? b = some o → h'.get? b = some o) : KS fs h h' := fun b o e => ⟨fun _ => x b o e, o.slots, x b o e⟩
section
variable {prog : Program} {w : World} {A : Around} {E : Value → Shared → Prop} {s : Shared} {a kS : Addr} {b : Bool} {vs : List Value} {e e1 : Nat} {P : PySem.Fin → Shared → Prop} {kz : List Int} {fs : List Addr}
end
end Bf
namespace Bf
open PySem PySem.Spec PyProof.Rows L2 LamX NdefX
section
variable {X : Cx} {pins : List (Addr × Obj)} {σ : L2.St} {H : Hp} {s s1 : Shared}
/-! ### sorted(e, key=lambda x: ..) -/
end
end Bf
namespace Bf
open PySem PySem.Spec PyProof.Rows L2
/-! ### bits of a number -/
def bl (n h : Nat) : List Nat := (List.range n).filter (fun k => h.testBit k)
def fb (ks : List Nat) : Nat := ks.foldl (fun h k => h ||| 2 ^ k) 0
theorem fold_bit (i : Nat) : ∀ (ks : List Nat) (h : Nat), (ks.foldl (fun h k => h ||| 2 ^ k) h).testBit i = (h.testBit i || decide (i ∈ ks))
  | [], h => by simp
  | k :: ks, h => by
    rw [List.foldl_cons, fold_bit i ks, Nat.testBit_or, Nat.testBit_two_pow, Bool.or_assoc]
    congr 1
    by_cases e : i = k
    · subst e; simp
    · have e2 : ¬ k = i := fun z => e z.symm
      simp [e, e2]
theorem fb_lt {ks : List Nat} {n : Nat} (hk : ∀ k ∈ ks, k < n) : fb ks < 2 ^ n := by
  refine Nat.lt_pow_two_of_testBit _ fun i hi => ?_
  unfold fb
  rw [fold_bit, Nat.zero_testBit, Bool.false_or]
  exact decide_eq_false fun z => by have := hk i z; omega
/-! ### numbers as data -/
def nv (ns : List Nat) : List V := ns.map fun (n : Nat) => V.int (n : Int)
def nd' (ns : List Nat) : List PyData := ns.map fun (n : Nat) => PyData.int (n : Int)
theorem dp_nv {K : PySem.W.Frag} {H : Hp} : ∀ ns : List Nat, DpAll K H (nv ns) (nd' ns)
  | [] => .nil
  | n :: ns => .cons (.int _) (dp_nv ns)
theorem nd_show : ∀ ns : List Nat, (∀ n ∈ ns, n < 2 ^ 61) → PyData.showableAll (nd' ns) = true
  | [], _ => rfl
  | n :: ns, h => by
    have h1 : n < 2 ^ 61 := h n List.mem_cons_self
    have e : n.log2 < 1920 := by
      by_cases z : n = 0
      · subst z; decide
      · exact Nat.lt_of_lt_of_le ((Nat.log2_lt z).mpr h1) (by decide)
    show (decide ((n : Int).natAbs.log2 < 1920) && PyData.showableAll (nd' ns)) = true
    rw [nd_show ns fun m hm => h m (List.mem_cons_of_mem _ hm), Bool.and_true]
    exact decide_eq_true (by simpa using e)
theorem nd_leaves : ∀ ns : List Nat, (∀ n ∈ ns, n < 2 ^ 61) → PyData.leavesShortAll 64 (nd' ns) = true
  | [], _ => rfl
  | n :: ns, h => by
    have h1 : n < 2 ^ 61 := h n List.mem_cons_self
    show (decide ((PyData.shown (.int (n : Int))).length ≤ 64) && PyData.leavesShortAll 64 (nd' ns)) = true
    rw [nd_leaves ns fun m hm => h m (List.mem_cons_of_mem _ hm), Bool.and_true]
    have h2 : (n : Int) < 10 ^ 19 := by omega
    exact decide_eq_true (Nat.le_trans (toString_length_le (v := (n : Int)) (by omega) (k := 19) (by decide) h2) (by decide))
theorem nd_weight : ∀ ns : List Nat, (∀ n ∈ ns, n < 2 ^ 61) → PyData.weightAll (nd' ns) ≤ 63 * ns.length
  | [], _ => Nat.le_refl _
  | n :: ns, h => by
    have h1 : n < 2 ^ 61 := h n List.mem_cons_self
    have ih := nd_weight ns fun m hm => h m (List.mem_cons_of_mem _ hm)
    have e : PyData.weight (.int (n : Int)) ≤ 62 := by
      simp only [PyData.weight]
      by_cases z : n = 0
      · subst z; decide
      · have := (Nat.log2_lt z).mpr h1
        rw [if_neg (by simpa using z)]
        simp
        omega
    show PyData.weight (.int (n : Int)) + 1 + PyData.weightAll (nd' ns) ≤ 63 * (ns.length + 1)
    omega
end Bf
namespace Bf
open PySem PySem.Spec PyProof.Rows L2
/-! ### round orders -/
def rb (q h j : Nat) : List Nat := ((List.range q).map fun i => (j + i) % q).filter fun k => h.testBit k
def ar (q j k : Nat) : Int := ((k : Int) - (j : Int)) % (q : Int)
theorem ar_at {q i : Nat} (j : Nat) (hi : i < q) : ar q j ((j + i) % q) = (i : Int) := by
  unfold ar
  rw [Int.natCast_emod, Int.emod_sub_emod, Int.natCast_add, show (j : Int) + i - j = i by omega]
  exact Int.emod_eq_of_lt (by omega) (by omega)
theorem at_of {q x : Nat} (j : Nat) (hx : x < q) : ∃ i, i < q ∧ (j + i) % q = x := by
  have hq : 0 < q := by omega
  refine ⟨(x + (q - j % q)) % q, Nat.mod_lt _ hq, ?_⟩
  have hj : j % q < q := Nat.mod_lt _ hq
  rw [Nat.add_mod, Nat.mod_mod, ← Nat.add_mod]
  have e : j + (x + (q - j % q)) = x + q * (j / q + 1) := by
    have := Nat.div_add_mod j q
    rw [Nat.mul_add, Nat.mul_one]
    omega
  rw [e, Nat.add_mul_mod_self_left]
  exact Nat.mod_eq_of_lt hx
theorem mem_rb {q h j x : Nat} : x ∈ rb q h j ↔ x < q ∧ h.testBit x = true := by
  unfold rb
  rw [List.mem_filter, List.mem_map]
  constructor
  · rintro ⟨⟨i, hi, rfl⟩, hb⟩
    have hi := List.mem_range.mp hi
    exact ⟨Nat.mod_lt _ (by omega), hb⟩
  · rintro ⟨hx, hb⟩
    obtain ⟨i, hi, e⟩ := at_of j hx
    exact ⟨⟨i, List.mem_range.mpr hi, e⟩, hb⟩
theorem rb_sorted (q h j : Nat) : (rb q h j).Pairwise (fun a b => ar q j a < ar q j b) := by
  unfold rb
  refine List.Pairwise.filter _ ?_
  rw [List.pairwise_map]
  refine (List.pairwise_lt_range).imp_of_mem fun {a b} ha hb hab => ?_
  rw [ar_at j (List.mem_range.mp ha), ar_at j (List.mem_range.mp hb)]
  omega
theorem ar_inj {q j a b : Nat} (ha : a < q) (hb : b < q) (h : ar q j a = ar q j b) : a = b := by
  obtain ⟨i, hi, rfl⟩ := at_of j ha
  obtain ⟨k, hk, rfl⟩ := at_of j hb
  rw [ar_at j hi, ar_at j hk] at h
  have : i = k := by omega
  rw [this]
theorem uniq_sorted {α : Type} {key : α → Int} : ∀ {l m : List α}, l.Pairwise (fun a b => key a < key b) → m.Pairwise (fun a b => key a < key b) → (∀ x, x ∈ l ↔ x ∈ m) → l = m
  | [], [], _, _, _ => rfl
  | [], b :: m, _, _, h => absurd ((h b).mpr List.mem_cons_self) List.not_mem_nil
  | a :: l, [], _, _, h => absurd ((h a).mp List.mem_cons_self) List.not_mem_nil
  | a :: l, b :: m, hl, hm, h => by
    obtain ⟨l1, l2⟩ := List.pairwise_cons.mp hl
    obtain ⟨m1, m2⟩ := List.pairwise_cons.mp hm
    have e : a = b := by
      rcases List.mem_cons.mp ((h a).mp List.mem_cons_self) with e | ea
      · exact e
      · rcases List.mem_cons.mp ((h b).mpr List.mem_cons_self) with e | eb
        · exact e.symm
        · have x1 := m1 a ea
          have x2 := l1 b eb
          omega
    subst e
    congr 1
    refine uniq_sorted l2 m2 fun x => ⟨fun hx => ?_, fun hx => ?_⟩
    · rcases List.mem_cons.mp ((h x).mp (List.mem_cons_of_mem _ hx)) with e | e
      · subst e
        exact absurd (l1 x hx) (Int.lt_irrefl _)
      · exact e
    · rcases List.mem_cons.mp ((h x).mpr (List.mem_cons_of_mem _ hx)) with e | e
      · subst e
        exact absurd (m1 x hx) (Int.lt_irrefl _)
      · exact e
end Bf
namespace Bf
open PySem PySem.Spec PyProof.Rows L2
/-! ### heaps -/
def Keeps (a : Addr) (H H' : Hp) : Prop := ∀ b o, b ≠ a → H b = some o → H' b = some o
theorem Keeps.refl (a : Addr) (H : Hp) : Keeps a H H := fun _ _ _ h => h
theorem Keeps.trans {a : Addr} {H H1 H2 : Hp} (x : Keeps a H H1) (y : Keeps a H1 H2) : Keeps a H H2 := fun b o n h => y b o n (x b o n h)
theorem Keeps.new {a p : Addr} {H H1 : Hp} {o : HO} (x : Keeps a H H1) (h : H1 p = none) : Keeps a H (upd H1 p o) := fun b u n e => by
  have e1 := x b u n e
  rw [upd_ne (ne_of_none e1 h)]
  exact e1
theorem Keeps.at {a : Addr} {H H1 : Hp} {o : HO} (x : Keeps a H H1) : Keeps a H (upd H1 a o) := fun b u n e => by
  rw [upd_ne n]
  exact x b u n e
theorem same_new {H H1 : Hp} {p : Addr} {o : HO} (x : Same H H1) (h : H1 p = none) : Same H (upd H1 p o) := fun b u e => by
  have e1 := x b u e
  rw [upd_ne (ne_of_none e1 h)]
  exact e1
/-- an expression that gives v, the heap as it was -/
def Gives (t : TE) (σ : L2.St) (H : Hp) (v : V) : Prop := ∀ Q : VK, Q v H → t σ H Q
theorem rd_ifI {tt : TT} {ta tb : TE} {σ : L2.St} {H : Hp} {Q : VK} (b : Bool) (P : Int → Prop) (h0 : ∀ Q' : Bool → Hp → Prop, Q' b H → tt σ H Q') (h1 : b = true → ∃ c : Int, P c ∧ Gives ta σ H (.int c)) (h2 : b = false → ∃ c : Int, P c ∧ Gives tb σ H (.int c))
    (h : ∀ c : Int, P c → Q (.int c) H) : tIf tt ta tb σ H Q := by
  refine h0 _ ?_
  cases b with
  | true => obtain ⟨c, hp, hc⟩ := h1 rfl; exact iteT (hc _ (h c hp))
  | false => obtain ⟨c, hp, hc⟩ := h2 rfl; exact iteF (hc _ (h c hp))
/-- the pot: three numbers at a; n counts what was drawn -/
def Pot (H : Hp) (a : Addr) (n : Nat) : Prop := ∃ x y z : Int, H a = some (.lst [.int x, .int y, .int z]) ∧ 0 ≤ x ∧ 0 ≤ y ∧ y < 4611686018427387904 ∧ 0 ≤ z ∧ z ≤ n
theorem Pot.new {H : Hp} {a p : Addr} {n : Nat} {o : HO} (h : Pot H a n) (hp : H p = none) : Pot (upd H p o) a n := let ⟨x, y, z, h1, h2⟩ := h; ⟨x, y, z, by rw [upd_ne (ne_of_none h1 hp)]; exact h1, h2⟩
theorem Pot.same {H H' : Hp} {a : Addr} {n : Nat} (h : Pot H a n) (s : Same H H') : Pot H' a n := let ⟨x, y, z, h1, h2⟩ := h; ⟨x, y, z, s _ _ h1, h2⟩

theorem nat_of {i : Int} {n : Nat} (h0 : 0 ≤ i) (h : i < n) : ∃ r : Nat, i = (r : Int) ∧ r < n := ⟨i.toNat, by omega, by omega⟩
/-! ### numbers that are not negative -/
section
variable {K : PySem.W.Frag} {f : Addr} {fd : FuncData}
/-! ### tuples that expressions give -/
def GT (K : PySem.W.Frag) (t : TE) (σ : L2.St) (H : Hp) (vs : List V) : Prop := ∀ H1, Same H H1 → ∀ Q : VK, (∀ H2 x, Same H1 H2 → SqT K H2 x vs → Q (.ref x) H2) → t σ H1 Q
theorem dp_tup {H : Hp} {a : Addr} {ns : List Nat} (h : SqT K H a (nv ns)) : Dp K H (.ref a) (.tuple (nd' ns)) := .tup h (dp_nv ns)
end
/-- where a def of the top stands -/
structure DefAt (K : PySem.W.Frag) (x : Str) (st : Stmt) (f : Addr) : Prop where
  at_ : PySem.W.nsIn K mainGlobals x = some (some (.ref f))
  fn : ∃ fd, Fun K x x st f fd
/-! ### tables and pots -/
open LamX NdefX
def KT (a : Addr) (H H' : Hp) : Prop := ∀ b o, b ≠ a → H b = some o → (∀ ps, o ≠ .tbl ps) → H' b = some o
theorem KT.refl (a : Addr) (H : Hp) : KT a H H := fun _ _ _ h _ => h
theorem KT.trans {a : Addr} {H H1 H2 : Hp} (x : KT a H H1) (y : KT a H1 H2) : KT a H H2 := fun b o n h t => y b o n (x b o n h t) t
theorem KT.k {a : Addr} {H H1 : Hp} (x : Keeps a H H1) : KT a H H1 := fun b o n h _ => x b o n h
theorem KT.e {a : Addr} {H H1 : Hp} (x : ExtN H H1) : KT a H H1 := fun b o _ h t => x b o h t
theorem ExtN.s {H H1 : Hp} (x : Same H H1) : ExtN H H1 := ExtN.of x
theorem Pot.ext {H H' : Hp} {a : Addr} {n : Nat} (h : Pot H a n) (s : ExtN H H') : Pot H' a n := let ⟨x, y, z, h1, h2⟩ := h; ⟨x, y, z, s _ _ h1 (fun ps z => nomatch z), h2⟩
theorem tabs_keeps {T : List (Addr × Str)} {H H' : Hp} {a : Addr} {m : Nat} (p : Pot H a m) (t : Tabs T H) (k : Keeps a H H') : Tabs T H' := fun q hq => by
  obtain ⟨x, y, z, hH, _⟩ := p
  obtain ⟨ps, h1, h2, h3⟩ := t q hq
  refine ⟨ps, k _ _ (fun e => ?_) h1, h2, fun pos cv hc => ?_⟩
  · rw [e, hH] at h1
    cases h1
  · obtain ⟨c, e1, e2⟩ := h3 pos cv hc
    refine ⟨c, e1, k _ _ (fun e => ?_) e2⟩
    rw [e, hH] at e2
    unfold CodeO at e2
    cases e2
/-- a def whose body makes a lambda: its code object is at c -/
structure FunT (K : PySem.W.Frag) (x : Str) (st : Stmt) (f : Addr) (fd : FuncData) (c : Addr) : Prop where
  ex : ∃ (oc : Value) (od : Option Addr) (kV doc pm : Value) (an : Option Addr) (ct : Value) (osl : Array (Option Value)),
    fd = PySem.W.fnOf x x (defArgs st) (defBody st) (defScope st) .none kV doc pm an (.ref c) ct ∧ K.lookup f = some ⟨oc, od, .func fd, osl⟩ ∧ PySem.W.codeIn K (.ref c) x = true
  kp : PySem.W.keepIn K (.ref f) = true
theorem FunT.ok {P : Program} {w : World} {K : PySem.W.Frag} {mg : Str → Option Value} {base : Heap} {x : Str} {st : Stmt} {f c : Addr} {fd : FuncData} {N ps : List Str} {k : Nat} {sp : Sp} (F : FunT K x st f fd c) (S : FnScope N ps (defScope st)) (len : ∀ vs H Q E, sp vs H Q E → vs.length = ps.length)
    (hbody : ∀ (A : Around) (outer : List Env) (s : Shared) (H : Hp) (vs : List V) (Q : VK) (E : XK), Room k (A.deeper (envOfC x (defScope st) s.heap.objs.size f (.ref c))) → sp vs H Q E →
      ∃ t, PSs (cxOf CX0 P w K mg base N x (defScope st) f (.ref c) A outer s H E).nox (defBody st) t ∧ t { nx := fun _ H' => Q .non H', rt := Q } (start N vs) H) : FnOk P w K mg base CX0 (k + 1) f fd ps sp := by
  obtain ⟨oc, od, kV, doc, pm, an, ct, osl, rfl, lk, hcd⟩ := F.ex
  refine fn_of lk hcd S len fun A outer s H vs Q E hr hs => ?_
  obtain ⟨t, h, q⟩ := hbody A outer s H vs Q E hr hs
  exact ⟨t, h.nox, q⟩
theorem FunT.fn {K : PySem.W.Frag} {x : Str} {st : Stmt} {f c : Addr} {fd : FuncData} (F : FunT K x st f fd c) : Fun K x x st f fd := let ⟨oc, od, kV, doc, pm, an, ct, osl, e, lk, hcd⟩ := F.ex; ⟨⟨oc, od, kV, doc, pm, an, .ref c, ct, osl, e, lk, hcd⟩, F.kp⟩
end Bf
namespace Bf
open PySem PySem.Spec PyProof.Rows L2
/-! ### ways -/
/-- the turns behind the first, so many of them -/
def tp (q d j n : Nat) : List Nat := ((List.range n).map fun i => (j + (1 + i)) % q).filter fun k => d.testBit k
theorem tp_lt {q d j n k : Nat} (hq : 0 < q) (h : k ∈ tp q d j n) : k < q := by
  unfold tp at h
  obtain ⟨i, _, rfl⟩ := List.mem_map.mp (List.mem_filter.mp h).1
  exact Nat.mod_lt _ hq
theorem rb_split {q d j : Nat} (hj : j < q) : rb q d j = (if d.testBit j = true then [j] else []) ++ tp q d j (q - 1) := by
  unfold rb tp
  obtain ⟨n, rfl⟩ : ∃ n, q = n + 1 := ⟨q - 1, by omega⟩
  rw [List.range_succ_eq_map, List.map_cons, Nat.add_sub_cancel, Nat.add_zero, Nat.mod_eq_of_lt hj, List.map_map]
  have e : (List.range n).map ((fun i => (j + i) % (n + 1)) ∘ Nat.succ) = (List.range n).map fun i => (j + (1 + i)) % (n + 1) := List.map_congr_left fun i _ => by
    show (j + (i + 1)) % (n + 1) = _
    rw [Nat.add_comm i 1]
  rw [e]
  cases eb : d.testBit j <;> simp [eb]
/-- the bits crossed in tree j -/
def cl (q d j : Nat) : List Nat := j :: tp q d j (q - 1) ++ (if d.testBit j = true then [] else [j])
theorem cl_in {q d j : Nat} (hj : j < q) (h : d.testBit j = true) : cl q d j = rb q d j := by
  rw [rb_split hj]
  unfold cl
  simp [h]
theorem cl_out {q d j : Nat} (hj : j < q) (h : d.testBit j = false) : cl q d j = [j] ++ rb q d j ++ [j] := by
  rw [rb_split hj]
  unfold cl
  simp [h]
theorem cl_lt {q d j k : Nat} (hj : j < q) (h : k ∈ cl q d j) : k < q := by
  unfold cl at h
  rcases List.mem_append.mp h with h | h
  · rcases List.mem_cons.mp h with rfl | h
    · exact hj
    · exact tp_lt (by omega) h
  · split at h
    · exact absurd h List.not_mem_nil
    · rw [List.mem_singleton.mp h]
      exact hj
theorem cl_ne (q d j : Nat) : cl q d j ≠ [] := by
  unfold cl
  simp
end Bf
namespace Bf
open PySem PySem.Spec PyProof.Rows L2 LamX NdefX
/-! ### defs with source=0 behind a star -/
abbrev FunS (K : PySem.W.Frag) (x : Str) (st : Stmt) (f : Addr) (fd : FuncData) : Prop := FunD K x x (defArgs st) (defBody st) (defScope st) [] [("source", .int 0)] f fd
theorem FunS.go {P : Program} {w : World} {K : PySem.W.Frag} {mg : Str → Option Value} {base : Heap} {x : Str} {st : Stmt} {f : Addr} {fd : FuncData} {N ps : List Str} {k : Nat} {sp : Sp} (F : FunS K x st f fd) (S : FnScope N ps (defScope st)) (len : ∀ vs H Q E, sp vs H Q E → vs.length = ps.length)
    (hbody : ∀ (cdv : Value) (A : Around) (outer : List Env) (s : Shared) (H : Hp) (vs : List V) (Q : VK) (E : XK), Room k (A.deeper (envOfC x (defScope st) s.heap.objs.size f cdv)) → sp vs H Q E →
      ∃ t, PSs (cxOf CX0 P w K mg base N x (defScope st) f cdv A outer s H E).nox (defBody st) t ∧ t { nx := fun _ H' => Q .non H', rt := Q } (start N vs) H) : FnOk P w K mg base CX0 (k + 1) f fd ps sp :=
  FunD.ok F S len fun cdv A outer s H vs Q E hr hs => let ⟨t, h, q⟩ := hbody cdv A outer s H vs Q E hr hs; ⟨t, h.nox, q⟩
def g3 {α : Type} (us ws : List α) : List α := match us, ws with
  | [a, b, c], [d] => [a, b, c, d]
  | _, _ => []
/-! ### tuples that expressions give, tables aside -/
end Bf
namespace Bf
open PySem PySem.Spec PyProof.Rows L2
/-! ### who hears whom -/
theorem sorted_last {α : Type} {key : α → Int} {k : α} : ∀ {l : List α}, l.Pairwise (fun a b => key a < key b) → (l.getLast? = some k ↔ k ∈ l ∧ ∀ x ∈ l, key x ≤ key k)
  | [], _ => by simp
  | [a], _ => by
    simp only [List.getLast?_singleton, Option.some.injEq, List.mem_singleton]
    constructor
    · rintro rfl
      exact ⟨rfl, fun x hx => by rw [hx]; exact Int.le_refl _⟩
    · exact fun h => h.1.symm
  | a :: b :: l, hp => by
    obtain ⟨h1, h2⟩ := List.pairwise_cons.mp hp
    have ih := sorted_last (k := k) h2
    rw [List.getLast?_cons_cons, ih]
    constructor
    · rintro ⟨m, h⟩
      refine ⟨List.mem_cons_of_mem _ m, fun x hx => ?_⟩
      rcases List.mem_cons.mp hx with rfl | hx
      · exact Int.le_of_lt (h1 k m)
      · exact h x hx
    · rintro ⟨m, h⟩
      have hb := h1 b List.mem_cons_self
      have hb2 := h b (List.mem_cons_of_mem _ List.mem_cons_self)
      rcases List.mem_cons.mp m with rfl | m
      · omega
      · exact ⟨m, fun x hx => h x (List.mem_cons_of_mem _ hx)⟩
theorem bit_xor (d k x : Nat) : (d ^^^ 2 ^ k).testBit x = (d.testBit x ^^ decide (k = x)) := by rw [Nat.testBit_xor, Nat.testBit_two_pow]
theorem lt_of_bit {d q x : Nat} (hd : d < 2 ^ q) (h : d.testBit x = true) : x < q := Nat.lt_of_not_le fun l => by
  rw [Nat.testBit_lt_two_pow (Nat.lt_of_lt_of_le hd (Nat.pow_le_pow_right (by decide) l))] at h
  cases h
theorem ar_self {q j : Nat} : ar q j j = 0 := by
  unfold ar
  rw [Int.sub_self, Int.zero_emod]
theorem ar_nn {q j x : Nat} (hq : 0 < q) : 0 ≤ ar q j x := Int.emod_nonneg _ (by omega)
/-- k is the last bit crossed to the hand across by k -/
def Hr (q d j k : Nat) : Prop := (cl q (d ^^^ 2 ^ k) j).getLast? = some k
theorem hr_iff {q d j k : Nat} (hj : j < q) (hk : k < q) (hd : d < 2 ^ q) : Hr q d j k ↔ (k = j ∧ (d = 0 ∨ d.testBit j = true)) ∨ (d.testBit j = true ∧ k ≠ j ∧ ∀ x, d.testBit x = true → ar q j x < ar q j k) := by
  have hq : 0 < q := by omega
  have hd' : d ^^^ 2 ^ k < 2 ^ q := Nat.xor_lt_two_pow hd (Nat.pow_lt_pow_right (by decide) hk)
  have bj := bit_xor d k j
  unfold Hr
  by_cases e : k = j
  · subst e
    rw [decide_eq_true rfl] at bj
    cases b : d.testBit k with
    | true =>
      rw [b] at bj
      rw [cl_out hj bj, List.getLast?_append, List.getLast?_singleton]
      simp
    | false =>
      rw [b] at bj
      rw [cl_in hj bj, sorted_last (rb_sorted q _ k)]
      constructor
      · rintro ⟨m, h⟩
        refine .inl ⟨rfl, .inl ?_⟩
        refine Nat.eq_of_testBit_eq fun x => ?_
        rw [Nat.zero_testBit]
        cases bx : d.testBit x with
        | false => rfl
        | true =>
          exfalso
          have hx : x < q := lt_of_bit hd bx
          have hxk : k ≠ x := fun z => by rw [z, bx] at b; cases b
          have hx2 : x ∈ rb q (d ^^^ 2 ^ k) k := mem_rb.mpr ⟨hx, by rw [bit_xor, bx, decide_eq_false hxk]; rfl⟩
          have h1 := h x hx2
          rw [ar_self] at h1
          have h2 := ar_nn (q := q) (j := k) (x := x) hq
          have h3 : ar q k x = ar q k k := by rw [ar_self]; omega
          exact hxk (ar_inj hx hk h3).symm
      · rintro (⟨_, h | h⟩ | ⟨h, _⟩)
        · subst h
          refine ⟨mem_rb.mpr ⟨hk, bj⟩, fun x hx => ?_⟩
          have := (mem_rb.mp hx).2
          rw [bit_xor, Nat.zero_testBit] at this
          have hx : k = x := by simpa using this
          rw [hx]
          exact Int.le_refl _
        · cases h
        · cases h
  · rw [decide_eq_false e, Bool.xor_false] at bj
    cases b : d.testBit j with
    | false =>
      rw [b] at bj
      rw [cl_out hj bj]
      constructor
      · intro h
        rw [List.getLast?_append, List.getLast?_singleton] at h
        exact absurd (Option.some.inj h).symm e
      · rintro (⟨h, _⟩ | ⟨h, _⟩)
        · exact absurd h e
        · cases h
    | true =>
      rw [b] at bj
      rw [cl_in hj bj, sorted_last (rb_sorted q _ j)]
      constructor
      · rintro ⟨m, h⟩
        refine .inr ⟨rfl, e, fun x bx => ?_⟩
        have m2 := (mem_rb.mp m).2
        have hkx : k ≠ x := fun z => by
          rw [bit_xor, z, bx, decide_eq_true rfl] at m2
          cases m2
        have hx : x < q := lt_of_bit hd bx
        have h1 := h x (mem_rb.mpr ⟨hx, by rw [bit_xor, bx, decide_eq_false hkx]; rfl⟩)
        have h2 : ar q j x ≠ ar q j k := fun z => hkx (ar_inj hx hk z).symm
        omega
      · rintro (⟨h, _⟩ | ⟨_, _, h⟩)
        · exact absurd h e
        · have bk : d.testBit k = false := by
            cases z : d.testBit k with
            | false => rfl
            | true => exact absurd (h k z) (Int.lt_irrefl _)
          refine ⟨mem_rb.mpr ⟨hk, by rw [bit_xor, bk, decide_eq_true rfl]; rfl⟩, fun x hx => ?_⟩
          by_cases hkx : k = x
          · rw [hkx]
            exact Int.le_refl _
          · have hx2 := (mem_rb.mp hx).2
            rw [bit_xor, decide_eq_false hkx, Bool.xor_false] at hx2
            exact Int.le_of_lt (h x hx2)
end Bf
namespace Bf
open PySem PySem.Spec PyProof.Rows L2 LamX NdefX
theorem tabs_upd {T : List (Addr × Str)} {H : Hp} {D : Addr} {xs ys : List V} (t : Tabs T H) (h : H D = some (.lst xs)) : Tabs T (upd H D (.lst ys)) := fun y hy => by
  obtain ⟨ps, t1, t2, t3⟩ := t y hy
  refine ⟨ps, ?_, t2, fun pos cv hc => ?_⟩
  · rw [upd_ne (fun e => by rw [e, h] at t1; cases t1)]
    exact t1
  · obtain ⟨c, e1, e2⟩ := t3 pos cv hc
    refine ⟨c, e1, ?_⟩
    rw [upd_ne (fun e => by rw [e, h] at e2; unfold CodeO at e2; cases e2)]
    exact e2
/-! ### small things -/
/-! ### if t: x = e -/
/-! ### crossed of the law -/
end Bf
namespace Bf
open PySem PySem.Spec PyProof.Rows L2
/-! ### once round -/
end Bf
namespace Bf
open PySem PySem.Spec PyProof.Rows L2
/-! ### each neighbour in one tree -/
end Bf
namespace Bf
open PySem PySem.Spec PyProof.Rows L2 LamX NdefX
/-! ### the tree whose turn it is -/
/-! ### a hand's bits, 0 or 1 each -/
def mk (q h : Nat) : List Nat := (List.range q).map fun k => (h.testBit k).toNat
theorem mk_len (q h : Nat) : (mk q h).length = q := by
  unfold mk
  rw [List.length_map, List.length_range]
theorem mk_get {q h k : Nat} (hk : k < q) : (mk q h)[k]? = some (h.testBit k).toNat := by
  unfold mk
  rw [List.getElem?_map, List.getElem?_range hk]
  rfl
theorem mk_of {L : List Nat} {q : Nat} (hl : L.length = q) (hb : ∀ x ∈ L, x < 2) : ∃ h, h < 2 ^ q ∧ L = mk q h := by
  refine ⟨fb ((List.range q).filter fun k => decide (L[k]? = some 1)), fb_lt fun k hk => List.mem_range.mp (List.mem_filter.mp hk).1, ?_⟩
  refine List.ext_getElem? fun i => ?_
  by_cases hi : i < q
  · rw [mk_get hi]
    have hi2 : i < L.length := by omega
    have hx := hb _ (List.getElem_mem hi2)
    rw [List.getElem?_eq_getElem hi2]
    congr 1
    unfold fb
    rw [fold_bit, Nat.zero_testBit, Bool.false_or]
    by_cases e : L[i] = 1
    · rw [decide_eq_true (List.mem_filter.mpr ⟨List.mem_range.mpr hi, decide_eq_true (by rw [List.getElem?_eq_getElem hi2, e])⟩), e]
      rfl
    · rw [decide_eq_false fun z => ?_]
      · show L[i] = 0
        omega
      · have z2 := of_decide_eq_true (List.mem_filter.mp z).2
        rw [List.getElem?_eq_getElem hi2] at z2
        exact e (Option.some.inj z2)
  · rw [List.getElem?_eq_none (by omega), List.getElem?_eq_none (by rw [mk_len]; omega)]
/-! ### rules -/
section
variable {X : Cx}
theorem op_powW : OpR X (binaryOp .Pow) (rI (fun i j => 0 ≤ j ∧ (Builtin.Int.intBits i : Int) * j ≤ 2 ^ 27) fun i j => .int (i ^ j.toNat)) := opI fun _ _ _ _ _ _ _ hc q => pow_int hc.1 hc.2 q
end
end Bf
namespace Bf
open PySem PySem.Spec PyProof.Rows L2 LamX NdefX
/-! ### more rules -/
/-! ### source=0 behind a star, by any names -/
def g4 {α : Type} (us ws : List α) : List α := match us, ws with
  | [a, b, c, d], [e] => [a, b, c, d, e]
  | _, _ => []
end Bf
namespace Bf
open PySem PySem.Spec PyProof.Rows L2 LamX NdefX
/-! ### since when -/
end Bf
namespace Bf
open PySem PySem.Spec PyProof.Rows L2 LamX NdefX
/-! ### what is heard, and first heard -/
end Bf
namespace Bf
open PySem PySem.Spec PyProof.Rows L2 LamX NdefX
/-! ### None, truths and numbers as data -/
def sd : V → PyData
  | .non => .none
  | .bl b => .bool b
  | .int n => .int n
  | _ => .none
def SmV (v : V) : Prop := v = .non ∨ (∃ b, v = .bl b) ∨ ∃ n : Nat, n < 2 ^ 61 ∧ v = .int (n : Int)
theorem SmV.non : SmV .non := .inl rfl
theorem SmV.bl (b : Bool) : SmV (.bl b) := .inr (.inl ⟨b, rfl⟩)
theorem SmV.int {n : Nat} (h : n < 2 ^ 61) : SmV (.int (n : Int)) := .inr (.inr ⟨n, h, rfl⟩)
theorem SmV.dp {K : PySem.W.Frag} {H : Hp} {v : V} (h : SmV v) : Dp K H v (sd v) := by
  rcases h with rfl | ⟨b, rfl⟩ | ⟨n, _, rfl⟩
  · exact .non
  · exact .bl _
  · exact .int _
/-! ### the last beat -/
end Bf
namespace Bf
open PySem PySem.Spec PyProof.Rows L2 LamX NdefX
/-! ### each letter once -/
end Bf
namespace Bf
open PySem PySem.Spec PyProof.Rows L2
/-! ### ways grow -/
theorem tp_bit {q d j n : Nat} (hj : j < q) (hn : n < q) : tp q (d ^^^ 2 ^ j) j n = tp q d j n := by
  unfold tp
  refine List.filter_congr fun x hx => ?_
  obtain ⟨i, hi, rfl⟩ := List.mem_map.mp hx
  have hi := List.mem_range.mp hi
  have ea := ar_at (q := q) (i := 1 + i) j (by omega)
  have hne : ¬ j = (j + (1 + i)) % q := fun z => by
    rw [← z, ar_self] at ea
    omega
  rw [bit_xor, decide_eq_false hne, Bool.xor_false]
theorem grow {q d j k : Nat} (hj : j < q) (hk : k < q) (hd : d < 2 ^ q) (hr : Hr q d j k) : (d = 0 → k = j ∧ cl q (d ^^^ 2 ^ k) j = [k]) ∧ (d ≠ 0 → cl q (d ^^^ 2 ^ k) j = cl q d j ++ [k]) := by
  have hq : 0 < q := by omega
  rcases (hr_iff hj hk hd).mp hr with ⟨rfl, h⟩ | ⟨b, hne, hlt⟩
  · constructor
    · intro e
      subst e
      refine ⟨rfl, ?_⟩
      have b1 : (0 ^^^ 2 ^ k).testBit k = true := by rw [bit_xor, Nat.zero_testBit, decide_eq_true rfl]; rfl
      have e1 : tp q (0 ^^^ 2 ^ k) k (q - 1) = tp q 0 k (q - 1) := tp_bit hj (by omega)
      have e2 : tp q 0 k (q - 1) = [] := by
        unfold tp
        simp
      unfold cl
      rw [b1, e1, e2]
      rfl
    · intro e
      have b : d.testBit k = true := h.resolve_left e
      have b1 : (d ^^^ 2 ^ k).testBit k = false := by rw [bit_xor, b, decide_eq_true rfl]; rfl
      have e1 : tp q (d ^^^ 2 ^ k) k (q - 1) = tp q d k (q - 1) := tp_bit hj (by omega)
      unfold cl
      rw [b1, b, e1]
      simp
  · have e0 : d ≠ 0 := fun z => by
      rw [z, Nat.zero_testBit] at b
      cases b
    refine ⟨fun z => absurd z e0, fun _ => ?_⟩
    have hkj : ¬ k = j := hne
    have b1 : (d ^^^ 2 ^ k).testBit j = true := by rw [bit_xor, b, decide_eq_false hkj]; rfl
    have bk : d.testBit k = false := by
      cases z : d.testBit k with
      | false => rfl
      | true => exact absurd (hlt k z) (Int.lt_irrefl _)
    rw [cl_in hj b1, cl_in hj b]
    refine uniq_sorted (key := fun x => ar q j x) (rb_sorted q _ j) ?_ fun x => ?_
    · refine List.pairwise_append.mpr ⟨rb_sorted q d j, List.pairwise_singleton _ _, fun x hx y hy => ?_⟩
      rw [List.mem_singleton.mp hy]
      exact hlt x (mem_rb.mp hx).2
    · rw [List.mem_append, List.mem_singleton, mem_rb, mem_rb, bit_xor]
      by_cases e : k = x
      · subst e
        rw [bk, decide_eq_true rfl]
        simp [hk]
      · rw [decide_eq_false e, Bool.xor_false]
        simp [Ne.symm (show k ≠ x from e)]
/-- back by the last crossing -/
theorem back {q d j : Nat} (hj : j < q) (hd : d < 2 ^ q) : ∃ k, k < q ∧ (cl q d j).getLast? = some k ∧ Hr q (d ^^^ 2 ^ k) j k ∧ d ^^^ 2 ^ k < 2 ^ q ∧ d = (d ^^^ 2 ^ k) ^^^ 2 ^ k := by
  have hne := cl_ne q d j
  have e2 : ∀ k, (d ^^^ 2 ^ k) ^^^ 2 ^ k = d := fun k => by rw [Nat.xor_assoc, Nat.xor_self, Nat.xor_zero]
  have hk : (cl q d j).getLast hne < q := cl_lt hj (List.getLast_mem hne)
  refine ⟨_, hk, List.getLast?_eq_getLast hne, ?_, Nat.xor_lt_two_pow hd (Nat.pow_lt_pow_right (by decide) hk), (e2 _).symm⟩
  unfold Hr
  rw [e2]
  exact List.getLast?_eq_getLast hne
end Bf
namespace Bf
open PySem PySem.Spec PyProof.Rows L2
/-! ### all hands by hearers (for k11) -/
def tl (q j s x : Nat) : Nat := x ^^^ 2 ^ ((cl q (x ^^^ s) j).getLast (cl_ne _ _ _))
theorem reach {q j s : Nat} (hj : j < q) (hs : s < 2 ^ q) {P : Nat → Prop} (h0 : P s) (hP : ∀ h x, P h → x < 2 ^ q → tl q j s x = h → x ≠ s → P x) : ∀ (n x : Nat), x < 2 ^ q → (cl q (x ^^^ s) j).length ≤ n → x ≠ s → P x
  | 0, x, hx, hl, _ => absurd (List.length_pos_iff.mpr (cl_ne q (x ^^^ s) j)) (by omega)
  | n + 1, x, hx, hl, hne => by
    have hd : x ^^^ s < 2 ^ q := Nat.xor_lt_two_pow hx hs
    obtain ⟨k, hk, hlast, hr, hd', ed⟩ := back hj hd
    have et : tl q j s x = x ^^^ 2 ^ k := by
      rw [List.getLast?_eq_getLast (cl_ne _ _ _)] at hlast
      unfold tl
      rw [Option.some.inj hlast]
    have e1 : x ^^^ 2 ^ k ^^^ s = x ^^^ s ^^^ 2 ^ k := by rw [Nat.xor_assoc, Nat.xor_comm (2 ^ k) s, ← Nat.xor_assoc]
    refine hP (tl q j s x) x ?_ hx rfl hne
    rw [et]
    by_cases z : x ^^^ 2 ^ k = s
    · rw [z]
      exact h0
    · have z2 : x ^^^ s ^^^ 2 ^ k ≠ 0 := fun y => z (by
        rw [← e1] at y
        have := congrArg (· ^^^ s) y
        simpa [Nat.xor_assoc] using this)
      have g := (grow hj hk hd' hr).2 z2
      rw [← ed] at g
      refine reach hj hs h0 hP n (x ^^^ 2 ^ k) (Nat.xor_lt_two_pow hx (Nat.pow_lt_pow_right (by decide) hk)) ?_ z
      rw [e1]
      rw [g, List.length_append] at hl
      have : (cl q (x ^^^ s ^^^ 2 ^ k) j).length + 1 ≤ n + 1 := hl
      omega
end Bf
namespace Bf
open PySem PySem.Spec PyProof.Rows L2
/-! ### delays counted (for k11) -/
end Bf
namespace Bf
open PySem PySem.Spec PyProof.Rows L2 LamX NdefX
/-! ### how many hands have a letter -/
end Bf
namespace Bf
open PySem PySem.Spec PyProof.Rows L2 LamX NdefX
def g5 {α : Type} (us ws : List α) : List α := match us, ws with
  | [a, b, c, d, e], [f] => [a, b, c, d, e, f]
  | _, _ => []
end Bf
namespace Bf
open PySem PySem.Spec PyProof.Rows L2 LamX NdefX
/-! ### the first beat from one on that crosses a bit of the set -/
end Bf
namespace Bf
/-! ### letters of each tree, counted -/
end Bf
namespace Bf
open PySem PySem.Spec PyProof.Rows L2 LamX NdefX
/-! ### all by names, in any order -/
/-! ### data of some kinds in a list -/
structure Okd (d : PyData) : Prop where
  sh : d.showable = true
  di : d.hasDict = false
  de : d.depth ≤ 2
  lv : d.leavesShort 64 = true
  we : d.weight ≤ 200
theorem okd_none : Okd .none := ⟨rfl, rfl, by decide, rfl, by decide⟩
theorem okd_bool (b : Bool) : Okd (.bool b) := by cases b <;> exact ⟨rfl, rfl, by decide, rfl, by decide⟩
theorem okd_int {n : Nat} (h : n < 2 ^ 61) : Okd (.int (n : Int)) := by
  have h1 : ∀ x ∈ [n], x < 2 ^ 61 := fun x hx => by rw [List.mem_singleton.mp hx]; exact h
  have a1 : (PyData.showable (.int (n : Int)) && PyData.showableAll []) = true := nd_show [n] h1
  have a2 : (PyData.leavesShort 64 (.int (n : Int)) && PyData.leavesShortAll 64 []) = true := nd_leaves [n] h1
  have a3 : PyData.weight (.int (n : Int)) + 1 + PyData.weightAll [] ≤ 63 * 1 := nd_weight [n] h1
  exact ⟨(Bool.and_eq_true _ _ ▸ a1).1, rfl, Nat.le_trans (by show PyData.depth (.int _) ≤ 1; simp [PyData.depth]) (by decide), (Bool.and_eq_true _ _ ▸ a2).1, by omega⟩
/-- what stands for itself -/
def vD : V → PyData
  | .non => .none
  | .bl b => .bool b
  | .int i => .int i
  | _ => .none
def Imm (v : V) : Prop := v = .non ∨ (∃ b, v = .bl b) ∨ ∃ n : Nat, n < 2 ^ 61 ∧ v = .int (n : Int)
theorem Imm.dp {K : PySem.W.Frag} {H : Hp} {v : V} (h : Imm v) : Dp K H v (vD v) := by
  rcases h with rfl | ⟨b, rfl⟩ | ⟨n, _, rfl⟩
  · exact .non
  · exact .bl b
  · exact .int _
theorem Imm.ok {v : V} (h : Imm v) : Okd (vD v) := by
  rcases h with rfl | ⟨b, rfl⟩ | ⟨n, hn, rfl⟩
  · exact okd_none
  · exact okd_bool b
  · exact okd_int hn
/-- a pair or nothing -/
def PrO (H : Hp) (v : V) (o : Option (Nat × Nat)) : Prop := match o with
  | none => v = .non
  | some ab => ∃ p, v = .ref p ∧ H p = some (.tup (nv [ab.1, ab.2]))
def oD : Option (Nat × Nat) → PyData
  | none => .none
  | some ab => .tuple (nd' [ab.1, ab.2])
theorem PrO.ext {H H' : Hp} {v : V} {o : Option (Nat × Nat)} (h : PrO H v o) (x : ExtN H H') : PrO H' v o := by
  cases o with
  | none => exact h
  | some ab =>
    obtain ⟨p, e, hp⟩ := h
    exact ⟨p, e, x _ _ hp (fun ps z => nomatch z)⟩
theorem PrO.dp {K : PySem.W.Frag} {H : Hp} {v : V} {o : Option (Nat × Nat)} (h : PrO H v o) : Dp K H v (oD o) := by
  cases o with
  | none =>
    have h : v = .non := h
    subst h
    exact .non
  | some ab =>
    obtain ⟨p, rfl, hp⟩ := h
    exact .tup (.inl (.inl hp)) (dp_nv _)
end Bf
namespace Bf
open PySem PySem.Spec PyProof.Rows L2 LamX NdefX
def PotC (H : Hp) (a : Addr) (n : Nat) : Prop := ∃ x y z : Int, H a = some (.lst [.int x, .int y, .int z]) ∧ 0 ≤ x ∧ 0 ≤ y ∧ y < 4611686018427387904 ∧ 0 ≤ z ∧ z ≤ n
theorem PotC.new {H : Hp} {a p : Addr} {n : Nat} {o : HO} (h : PotC H a n) (hp : H p = none) : PotC (upd H p o) a n := let ⟨x, y, z, h1, h2⟩ := h; ⟨x, y, z, by rw [upd_ne (ne_of_none h1 hp)]; exact h1, h2⟩
theorem PotC.same {H H' : Hp} {a : Addr} {n : Nat} (h : PotC H a n) (s : Same H H') : PotC H' a n := let ⟨x, y, z, h1, h2⟩ := h; ⟨x, y, z, s _ _ h1, h2⟩

theorem PotC.ext {H H' : Hp} {a : Addr} {n : Nat} (h : PotC H a n) (s : ExtN H H') : PotC H' a n := let ⟨x, y, z, h1, h2⟩ := h; ⟨x, y, z, s _ _ h1 (fun ps z => nomatch z), h2⟩
end Bf
namespace Bf
open PySem PySem.Spec PyProof.Rows L2 LamX NdefX
/-! ### tellings -/
abbrev Trip := Nat × Nat × Nat
def bD (x : Trip) : PyData := .tuple (nd' [x.1, x.2.1, x.2.2])
def KTu (H H' : Hp) : Prop := ∀ p ns, H p = some (.tup ns) → H' p = some (.tup ns)
theorem KTu.trans {A B C : Hp} (x : KTu A B) (y : KTu B C) : KTu A C := fun p ns h => y p ns (x p ns h)
def TrA (H : Hp) : List V → List Trip → Prop
  | [], [] => True
  | v :: vs, x :: xs => (∃ p, v = .ref p ∧ H p = some (.tup (nv [x.1, x.2.1, x.2.2]))) ∧ TrA H vs xs
  | _, _ => False
theorem TrA.mono {H H' : Hp} (k : KTu H H') : ∀ {vs : List V} {xs : List Trip}, TrA H vs xs → TrA H' vs xs
  | [], [], _ => trivial
  | v :: vs, x :: xs, ⟨⟨p, e, h⟩, r⟩ => ⟨⟨p, e, k _ _ h⟩, TrA.mono k r⟩
  | [], _ :: _, h => h.elim
  | _ :: _, [], h => h.elim
theorem TrA.len {H : Hp} : ∀ {vs : List V} {xs : List Trip}, TrA H vs xs → vs.length = xs.length
  | [], [], _ => rfl
  | _ :: _, _ :: _, ⟨_, r⟩ => by rw [List.length_cons, List.length_cons, r.len]
  | [], _ :: _, h => h.elim
  | _ :: _, [], h => h.elim
theorem TrA.dp {K : PySem.W.Frag} {H : Hp} : ∀ {vs : List V} {xs : List Trip}, TrA H vs xs → DpAll K H vs (xs.map bD)
  | [], [], _ => .nil
  | _ :: _, x :: _, ⟨⟨p, e, h⟩, r⟩ => by subst e; exact .cons (dp_tup (ns := [x.1, x.2.1, x.2.2]) (.inl (.inl h))) r.dp
  | [], _ :: _, h => h.elim
  | _ :: _, [], h => h.elim
def BtA (H : Hp) : List V → List (List Trip) → Prop
  | [], [] => True
  | v :: vs, x :: xs => (∃ p us, v = .ref p ∧ H p = some (.tup us) ∧ TrA H us x) ∧ BtA H vs xs
  | _, _ => False
theorem BtA.mono {H H' : Hp} (k : KTu H H') : ∀ {vs : List V} {xs : List (List Trip)}, BtA H vs xs → BtA H' vs xs
  | [], [], _ => trivial
  | v :: vs, x :: xs, ⟨⟨p, us, e, h, t⟩, r⟩ => ⟨⟨p, us, e, k _ _ h, t.mono k⟩, BtA.mono k r⟩
  | [], _ :: _, h => h.elim
  | _ :: _, [], h => h.elim
theorem BtA.len {H : Hp} : ∀ {vs : List V} {xs : List (List Trip)}, BtA H vs xs → vs.length = xs.length
  | [], [], _ => rfl
  | _ :: _, _ :: _, ⟨_, r⟩ => by rw [List.length_cons, List.length_cons, r.len]
  | [], _ :: _, h => h.elim
  | _ :: _, [], h => h.elim
def pD (ts : List Trip) : PyData := .tuple (ts.map bD)
theorem BtA.dp {K : PySem.W.Frag} {H : Hp} : ∀ {vs : List V} {xs : List (List Trip)}, BtA H vs xs → DpAll K H vs (xs.map pD)
  | [], [], _ => .nil
  | _ :: _, x :: _, ⟨⟨p, us, e, h, t⟩, r⟩ => by subst e; exact .cons (.tup (.inl (.inl h)) t.dp) r.dp
  | [], _ :: _, h => h.elim
  | _ :: _, [], h => h.elim
/-! ### how they are shown -/
structure Ok2 (d : PyData) (W D : Nat) : Prop where
  sh : d.showable = true
  di : d.hasDict = false
  de : d.depth ≤ D
  lv : d.leavesShort 64 = true
  we : d.weight ≤ W
  ca : d.canLay0 = true
/-! ### how far the next bit is -/
end Bf
namespace Bf
open PySem PySem.Spec PyProof.Rows L2 LamX NdefX
/-! ### t * k for k from 0 on -/
/-! ### walks -/
/-! ### what a row comes to -/
def ev : List Nat → Nat → Nat
  | [], _ => 0
  | a :: as, x => a + x * ev as x
/-! ### how rows are shown -/
end Bf
namespace Bf
open PySem PySem.Spec PyProof.Rows L2 LamX NdefX
/-! ### t * k for any small k -/
end Bf
namespace Bf
open PySem PySem.Spec PyProof.Rows L2
open AutoSeq1 (wpAny_loadPart')
/-! ### enumerate(tuple) -/
end Bf
namespace Bf
open PySem PySem.Spec PyProof.Rows L2 LamX NdefX
/-! ### small things for k11 -/
theorem pigeon {l : List Nat} {n : Nat} (nd : l.Nodup) (h : ∀ x ∈ l, x < n) : l.length ≤ n := by
  have p : l.Perm ((List.range n).filter fun x => decide (x ∈ l)) := by
    refine (List.perm_ext_iff_of_nodup nd (List.Pairwise.filter _ List.nodup_range)).mpr fun x => ?_
    rw [List.mem_filter, List.mem_range]
    exact ⟨fun hx => ⟨h x hx, decide_eq_true hx⟩, fun hx => of_decide_eq_true hx.2⟩
  rw [p.length_eq]
  have := List.length_filter_le (fun x => decide (x ∈ l)) (List.range n)
  rw [List.length_range] at this
  exact this
structure GI (q j s : Nat) (P W : List Nat) (ps : List (Nat × Nat)) : Prop where
  nd : (P ++ W).Nodup
  lt : ∀ x ∈ P ++ W, x < 2 ^ q
  src : s ∈ P ++ W
  par : ∀ x ∈ P ++ W, x ≠ s → tl q j s x ∈ P
  pnd : (ps.map (·.2)).Nodup
  pm : ∀ x, x ∈ ps.map (·.2) ↔ x < 2 ^ q ∧ tl q j s x ∈ P
  pt : ∀ pr ∈ ps, pr.1 = tl q j s pr.2
  cls : ∀ h x, h ∈ P → x < 2 ^ q → tl q j s x = h → x ≠ s → x ∈ P ++ W
theorem GI.start {q j s : Nat} (hs : s < 2 ^ q) : GI q j s [] [s] [] where
  nd := by simp
  lt := fun x hx => by
    have : x = s := by simpa using hx
    rw [this]
    exact hs
  src := by simp
  par := fun x hx hne => absurd (by simpa using hx) hne
  pnd := List.Pairwise.nil
  pm := fun x => by simp
  pt := fun pr h => absurd h List.not_mem_nil
  cls := fun h x hh => absurd hh List.not_mem_nil
theorem tl_lt {q j s x : Nat} (hj : j < q) (hx : x < 2 ^ q) : tl q j s x < 2 ^ q := Nat.xor_lt_two_pow hx (Nat.pow_lt_pow_right (by decide) (cl_lt hj (List.getLast_mem _)))
theorem GI.all {q j s : Nat} {P : List Nat} {ps : List (Nat × Nat)} (hj : j < q) (hs : s < 2 ^ q) (g : GI q j s P [] ps) : ∀ x, x ∈ ps.map (·.2) ↔ x < 2 ^ q := fun x => by
  have src : s ∈ P := by simpa using g.src
  have all : ∀ y, y < 2 ^ q → y ∈ P := fun y hy => by
    by_cases e : y = s
    · rw [e]
      exact src
    · exact reach (P := fun z => z ∈ P) hj hs src (fun h x a b c d => by simpa using g.cls h x a b c d) _ y hy (Nat.le_refl _) e
  rw [g.pm]
  exact ⟨fun h => h.1, fun h => ⟨h, all _ (tl_lt hj h)⟩⟩
theorem GI.len {q j s : Nat} {P W : List Nat} {ps : List (Nat × Nat)} (g : GI q j s P W ps) : ps.length ≤ 2 ^ q ∧ P.length ≤ 2 ^ q := by
  constructor
  · have := pigeon g.pnd (n := 2 ^ q) fun x hx => ((g.pm x).mp hx).1
    rw [List.length_map] at this
    exact this
  · have := pigeon g.nd g.lt
    rw [List.length_append] at this
    omega
end Bf
namespace Bf
open PySem PySem.Spec PyProof.Rows L2 LamX NdefX
/-! ## data that values stand for; fp: the lists and dicts in it -/
def kD : Key → PyData
  | .inl i => .int i
  | .inr x => .str x
/-- a tuple as it is made -/
def TupR (H : Hp) (a : Addr) (xs : List V) : Prop := H a = some (.tup xs)
/-- what may change -/
def Mtb : HO → Prop
  | .lst _ => True
  | .dK _ => True
  | .dT _ => True
  | .ins _ _ _ => True
  | _ => False
/-- what stands for good: tuples; lists, dicts, errors from when on nobody changes them -/
inductive PC where
  | tup (xs : List V)
  | fl (o : Obj) (xs : List V)
  | fd (o p : Obj) (u : HO)
  | fe (o : Obj) (φ : Heap → Prop)
  | xd (fs : List (Str × V))
def PC.ho : PC → HO
  | .tup xs => .tup xs
  | .fl o xs => .frz o (.lst xs)
  | .fd o p u => .frz o (.frz p u)
  | .fe o φ => .frz o (.ext φ)
  | .xd fs => .xd fs
theorem PC.nm (c : PC) (h : Mtb c.ho) : False := by cases c <;> exact h
theorem PC.nt (c : PC) : ∀ ps, c.ho ≠ .tbl ps := fun ps z => by cases c <;> cases z
def TupX (H : Hp) (a : Addr) (c : PC) : Prop := H a = some c.ho
/-- an error of class cls, its own dict at d -/
def erP (cls : Value) (d : Option Addr) (a : Addr) : Heap → Prop := fun h => ∃ (oe : Obj) (vs : Array Value), h.get? a = some oe ∧ Zc cls d oe ∧ oe.data = .fields vs
theorem TupX.r {H H' : Hp} (t : ∀ b c, TupX H b c → TupX H' b c) : ∀ b xs, TupR H b xs → TupR H' b xs := fun b xs h => t b (.tup xs) h
theorem TupR.q {K : PySem.W.Frag} {H : Hp} {a : Addr} {xs : List V} (h : TupR H a xs) : SqT K H a xs := .inl (.inl h)
theorem TupR.same {H H' : Hp} {a : Addr} {xs : List V} (s : Same H H') (h : TupR H a xs) : TupR H' a xs := s _ _ h
mutual
/-- data of any kind, for good -/
inductive Av (H : Hp) : V → PyData → Prop
  | non : Av H .non .none
  | bl (b : Bool) : Av H (.bl b) (.bool b)
  | int (i : Int) : Av H (.int i) (.int i)
  | str (x : Str) : Av H (.str x) (.str x)
  | lst {a : Addr} {o : Obj} {xs : List V} {ds : List PyData} : TupX H a (.fl o xs) → AvA H xs ds → Av H (.ref a) (.list ds)
  | tup {a : Addr} {xs : List V} {ds : List PyData} : TupX H a (.tup xs) → AvA H xs ds → Av H (.ref a) (.tuple ds)
  | dic {a : Addr} {o p : Obj} {kvs : List (Key × V)} {ps : List (PyData × PyData)} {ds : List PyData} : TupX H a (.fd o p (.dK kvs)) → ps.map Prod.fst = kvs.map (fun kv => kD kv.1) → ps.map Prod.snd = ds → AvA H (kvs.map Prod.snd) ds → Av H (.ref a) (.dict ps)
inductive AvA (H : Hp) : List V → List PyData → Prop
  | nil : AvA H [] []
  | cons {v : V} {vs : List V} {d : PyData} {ds : List PyData} : Av H v d → AvA H vs ds → AvA H (v :: vs) (d :: ds)
end
theorem Av.stab {H H' : Hp} (ht : ∀ b c, TupX H b c → TupX H' b c) {v : V} {d : PyData} (h : Av H v d) : Av H' v d := by
  refine Av.rec (motive_1 := fun v d _ => Av H' v d) (motive_2 := fun vs ds _ => AvA H' vs ds) .non .bl .int .str (fun e _ ih => .lst (ht _ _ e) ih) (fun e _ ih => .tup (ht _ _ e) ih) (fun e e1 e2 _ ih => .dic (ht _ _ e) e1 e2 ih) .nil (fun _ _ a b => .cons a b) h
mutual
inductive Im (K : PySem.W.Frag) (H : Hp) : V → PyData → List Addr → Prop
  | non : Im K H .non .none []
  | bl (b : Bool) : Im K H (.bl b) (.bool b) []
  | int (i : Int) : Im K H (.int i) (.int i) []
  | str (x : Str) : Im K H (.str x) (.str x) []
  | lst {a : Addr} {xs : List V} {ds : List PyData} {fp fq : List Addr} : H a = some (.lst xs) → ImA K H xs ds fp → fq = a :: fp → Im K H (.ref a) (.list ds) fq
  | tup {a : Addr} {xs : List V} {ds : List PyData} {fp : List Addr} : TupR H a xs → ImA K H xs ds fp → Im K H (.ref a) (.tuple ds) fp
  | dicK {a : Addr} {kvs : List (Key × V)} {ps : List (PyData × PyData)} {ds : List PyData} {fp fq : List Addr} : H a = some (.dK kvs) → ps.map Prod.fst = kvs.map (fun kv => kD kv.1) → ps.map Prod.snd = ds → ImA K H (kvs.map Prod.snd) ds fp → fq = a :: fp → Im K H (.ref a) (.dict ((.none, .none) :: ps)) fq
  | dicT {a : Addr} {kvs : List (List Key × V)} {ps : List (PyData × PyData)} {ds : List PyData} {fp fq : List Addr} : H a = some (.dT kvs) → ps.map Prod.fst = kvs.map (fun kv => .tuple (kv.1.map kD)) → ps.map Prod.snd = ds → ImA K H (kvs.map Prod.snd) ds fp → fq = a :: fp → Im K H (.ref a) (.dict ps) fq
  | ins {a dx : Addr} {cn : Str} {mk : PyData} {fs : List (Str × V)} {ps : List (PyData × PyData)} {ds : List PyData} {fp fq : List Addr} : (mk = .bool true ∨ mk = .int (a : Int)) → H a = some (.ins (He.ga K cn) dx fs) → ps.map Prod.fst = fs.map (fun f => .str f.1) → ps.map Prod.snd = ds → ImA K H (fs.map Prod.snd) ds fp → fq = a :: fp → Im K H (.ref a) (.dict ((mk, .str cn) :: ps)) fq
  | pin {a : Addr} {d : PyData} {fp : List Addr} : Im K H (.ref a) d fp → Im K H (.ref a) (.dict [(.int (a : Int), d)]) fp
  | any {v : V} {d : PyData} : Av H v d → Im K H v (.dict [(.str "any", d)]) []
  | err {a dx : Addr} {cn f : Str} {oe : Obj} {v : V} {d : PyData} : TupX H a (.fe oe (erP (.ref (He.ga K cn)) (some dx) a)) → TupX H dx (.xd [(f, v)]) → Im K H v d [] → Im K H (.ref a) (.dict [(.str "err", .str cn), (.str f, d)]) []
  | err0 {a : Addr} {cn : Str} {oe : Obj} : TupX H a (.fe oe (erP (.ref (He.ga K cn)) none a)) → Im K H (.ref a) (.dict [(.str "err", .str cn)]) []
inductive ImA (K : PySem.W.Frag) (H : Hp) : List V → List PyData → List Addr → Prop
  | nil : ImA K H [] [] []
  | cons {v : V} {vs : List V} {d : PyData} {ds : List PyData} {fp fq fr : List Addr} : Im K H v d fp → ImA K H vs ds fq → fr = fp ++ fq → ImA K H (v :: vs) (d :: ds) fr
end
section
variable {K : PySem.W.Frag} {H H' : Hp}
theorem Im.stab (ht : ∀ b xs, TupX H b xs → TupX H' b xs) (d : PyData) (v : V) (fp : List Addr) (h : Im K H v d fp) : (∀ b ∈ fp, ∀ o, H b = some o → Mtb o → H' b = some o) → Im K H' v d fp := by
  refine Im.rec (motive_1 := fun v d fp _ => (∀ b ∈ fp, ∀ o, H b = some o → Mtb o → H' b = some o) → Im K H' v d fp) (motive_2 := fun vs ds fp _ => (∀ b ∈ fp, ∀ o, H b = some o → Mtb o → H' b = some o) → ImA K H' vs ds fp) ?_ ?_ ?_ ?_ ?_ ?_ ?_ ?_ ?_ ?_ ?_ ?_ ?_ ?_ ?_ h
  · exact fun _ => .non
  · exact fun b _ => .bl b
  · exact fun b _ => .int b
  · exact fun b _ => .str b
  · rintro a xs ds fp fq e _ q ih hl
    subst q
    exact .lst (hl _ List.mem_cons_self _ e trivial) (ih fun b hb => hl b (List.mem_cons_of_mem _ hb)) rfl
  · exact fun e _ ih hl => .tup (TupX.r ht _ _ e) (ih hl)
  · rintro a kvs ps ds fp fq e e1 e2 _ q ih hl
    subst q
    exact .dicK (hl _ List.mem_cons_self _ e trivial) e1 e2 (ih fun b hb => hl b (List.mem_cons_of_mem _ hb)) rfl
  · rintro a kvs ps ds fp fq e e1 e2 _ q ih hl
    subst q
    exact .dicT (hl _ List.mem_cons_self _ e trivial) e1 e2 (ih fun b hb => hl b (List.mem_cons_of_mem _ hb)) rfl
  · rintro a dx cn mk fs ps ds fp fq em e e1 e2 _ q ih hl
    subst q
    exact .ins em (hl _ List.mem_cons_self _ e trivial) e1 e2 (ih fun b hb => hl b (List.mem_cons_of_mem _ hb)) rfl
  · exact fun _ ih hl => .pin (ih hl)
  · exact fun e _ => .any (e.stab ht)
  · exact fun e1 e2 _ ih _ => .err (ht _ _ e1) (ht _ _ e2) (ih fun b hb => absurd hb List.not_mem_nil)
  · exact fun e1 _ => .err0 (ht _ _ e1)
  · exact fun _ => .nil
  · rintro v vs d ds fp fq fr _ _ q ih1 ih2 hl
    subst q
    exact .cons (ih1 fun x hx => hl x (List.mem_append_left _ hx)) (ih2 fun x hx => hl x (List.mem_append_right _ hx)) rfl
theorem ImA.stab (ht : ∀ b xs, TupX H b xs → TupX H' b xs) : ∀ (ds : List PyData) (vs : List V) (fp : List Addr), ImA K H vs ds fp → (∀ b ∈ fp, ∀ o, H b = some o → Mtb o → H' b = some o) → ImA K H' vs ds fp
  | [], _, _, h, _ => by cases h; exact .nil
  | d :: ds, _, _, h, hl => by
    cases h with
    | cons a b q =>
      subst q
      exact .cons (Im.stab ht d _ _ a fun x hx => hl x (List.mem_append_left _ hx)) (ImA.stab ht ds _ _ b fun x hx => hl x (List.mem_append_right _ hx)) rfl
theorem hasDict_all {d : PyData} {ds : List PyData} (h : PyData.hasDictAll (d :: ds) = false) : d.hasDict = false ∧ PyData.hasDictAll ds = false := by
  have h : (PyData.hasDict d || PyData.hasDictAll ds) = false := h
  exact Bool.or_eq_false_iff.mp h
mutual
theorem Im.dpD : ∀ (d : PyData) (v : V) (fp : List Addr), Im K H v d fp → d.hasDict = false → Dp K H v d
  | .none, _, _, h, _ => by cases h; exact .non
  | .bool b, _, _, h, _ => by cases h; exact .bl b
  | .int b, _, _, h, _ => by cases h; exact .int b
  | .str b, _, _, h, _ => by cases h; exact .str b
  | .list ds, _, _, h, z => by
    cases h with
    | lst e a q => exact .lst (.inl (.inl e)) (ImA.dpD ds _ _ a z)
  | .tuple ds, _, _, h, z => by
    cases h with
    | tup e a => exact .tup e.q (ImA.dpD ds _ _ a z)
  | .dict kvs, _, _, h, z => by cases z
theorem ImA.dpD : ∀ (ds : List PyData) (vs : List V) (fp : List Addr), ImA K H vs ds fp → PyData.hasDictAll ds = false → DpAll K H vs ds
  | [], _, _, h, _ => by cases h; exact .nil
  | d :: ds, _, _, h, z => by
    cases h with
    | cons a b q => exact .cons (Im.dpD d _ _ a (hasDict_all z).1) (ImA.dpD ds _ _ b (hasDict_all z).2)
end
/-- each list, dict of it stands -/
theorem Im.mtb (d : PyData) (v : V) (fp : List Addr) (h : Im K H v d fp) : ∀ b ∈ fp, ∃ o, H b = some o ∧ Mtb o := by
  refine Im.rec (motive_1 := fun v d fp _ => ∀ b ∈ fp, ∃ o, H b = some o ∧ Mtb o) (motive_2 := fun vs ds fp _ => ∀ b ∈ fp, ∃ o, H b = some o ∧ Mtb o) ?_ ?_ ?_ ?_ ?_ ?_ ?_ ?_ ?_ ?_ ?_ ?_ ?_ ?_ ?_ h
  · exact fun b hb => absurd hb List.not_mem_nil
  · exact fun _ b hb => absurd hb List.not_mem_nil
  · exact fun _ b hb => absurd hb List.not_mem_nil
  · exact fun _ b hb => absurd hb List.not_mem_nil
  · rintro a xs ds fp fq e _ q ih b hb
    subst q
    rcases List.mem_cons.mp hb with rfl | hb
    · exact ⟨_, e, trivial⟩
    · exact ih b hb
  · exact fun e _ ih => ih
  · rintro a kvs ps ds fp fq e e1 e2 _ q ih b hb
    subst q
    rcases List.mem_cons.mp hb with rfl | hb
    · exact ⟨_, e, trivial⟩
    · exact ih b hb
  · rintro a kvs ps ds fp fq e e1 e2 _ q ih b hb
    subst q
    rcases List.mem_cons.mp hb with rfl | hb
    · exact ⟨_, e, trivial⟩
    · exact ih b hb
  · rintro a dx cn mk fs ps ds fp fq em e e1 e2 _ q ih b hb
    subst q
    rcases List.mem_cons.mp hb with rfl | hb
    · exact ⟨_, e, trivial⟩
    · exact ih b hb
  · exact fun _ ih => ih
  · exact fun _ b hb => absurd hb List.not_mem_nil
  · exact fun _ _ _ _ b hb => absurd hb List.not_mem_nil
  · exact fun _ b hb => absurd hb List.not_mem_nil
  · exact fun b hb => absurd hb List.not_mem_nil
  · rintro v vs d ds fp fq fr _ _ q ih1 ih2 b hb
    subst q
    rcases List.mem_append.mp hb with hb | hb
    · exact ih1 b hb
    · exact ih2 b hb
theorem Mtb.tbl {o : HO} (h : Mtb o) : ∀ ps, o ≠ .tbl ps := fun ps e => by subst e; exact h
theorem Mtb.tup {o : HO} (h : Mtb o) : ∀ ps, o ≠ .tup ps := fun ps e => by subst e; exact h
theorem ImA.len : ∀ {ds : List PyData} {vs : List V} {fp : List Addr}, ImA K H vs ds fp → vs.length = ds.length
  | [], _, _, h => by cases h; rfl
  | d :: ds, _, _, h => by
    cases h with
    | cons a b q => rw [List.length_cons, List.length_cons, ImA.len b]
theorem ImA.app : ∀ {ds es : List PyData} {vs ws : List V} {fp fq : List Addr}, ImA K H vs ds fp → ImA K H ws es fq → ImA K H (vs ++ ws) (ds ++ es) (fp ++ fq)
  | [], _, _, _, _, _, h, g => by cases h; exact g
  | d :: ds, _, _, _, _, _, h, g => by
    cases h with
    | cons a b q =>
      subst q
      exact .cons a (ImA.app b g) (List.append_assoc _ _ _)
theorem ImA.get : ∀ {ds : List PyData} {vs : List V} {fp : List Addr} {i : Nat} {d : PyData}, ImA K H vs ds fp → ds[i]? = some d → ∃ v fq, vs[i]? = some v ∧ Im K H v d fq ∧ ∀ b ∈ fq, b ∈ fp
  | [], _, _, _, _, h, e => by cases e
  | d :: ds, _, _, 0, _, h, e => by
    cases h with
    | cons a b q =>
      subst q
      obtain rfl : d = _ := Option.some.inj e
      exact ⟨_, _, rfl, a, fun b hb => List.mem_append_left _ hb⟩
  | d :: ds, _, _, i + 1, _, h, e => by
    cases h with
    | cons a b q =>
      subst q
      obtain ⟨v, fq, h1, h2, h3⟩ := ImA.get b e
      exact ⟨v, fq, h1, h2, fun b hb => List.mem_append_right _ (h3 b hb)⟩
end
/-! ### kinds of data -/
class Enc (α : Type) where
  en : α → PyData
abbrev enc {α : Type} [Enc α] (a : α) : PyData := Enc.en a
class Pu (α : Type) [Enc α] : Prop where
  pu : ∀ {K : PySem.W.Frag} {H : Hp} {v : V} {a : α} {fp : List Addr}, Im K H v (enc a) fp → fp = []
instance : Enc Nat := ⟨fun n => .int (n : Int)⟩
instance : Enc Int := ⟨fun n => .int n⟩
instance : Enc Bool := ⟨fun n => .bool n⟩
instance : Enc Unit := ⟨fun _ => .none⟩
instance : Enc Str := ⟨fun x => .str x⟩
instance {α : Type} [Enc α] : Enc (Option α) := ⟨fun x => match x with | none => .none | some a => enc a⟩
instance {α β : Type} [Enc α] [Enc β] : Enc (α × β) := ⟨fun x => .tuple [enc x.1, enc x.2]⟩
structure T3 (α β γ : Type) where
  a : α
  b : β
  c : γ
structure T4 (α β γ δ : Type) where
  a : α
  b : β
  c : γ
  d : δ
instance {α β γ : Type} [Enc α] [Enc β] [Enc γ] : Enc (T3 α β γ) := ⟨fun x => .tuple [enc x.a, enc x.b, enc x.c]⟩
instance {α β γ δ : Type} [Enc α] [Enc β] [Enc γ] [Enc δ] : Enc (T4 α β γ δ) := ⟨fun x => .tuple [enc x.a, enc x.b, enc x.c, enc x.d]⟩
/-- a tuple of equals in kind -/
instance {α : Type} [Enc α] : Enc (List α) := ⟨fun x => .tuple (x.map enc)⟩
/-- a list -/
structure Lst (α : Type) where
  l : List α
instance {α : Type} [Enc α] : Enc (Lst α) := ⟨fun x => .list (x.l.map enc)⟩
instance : Pu Nat := ⟨fun h => by cases h; rfl⟩
instance : Pu Int := ⟨fun h => by cases h; rfl⟩
instance : Pu Bool := ⟨fun h => by cases h; rfl⟩
instance : Pu Unit := ⟨fun h => by cases h; rfl⟩
instance : Pu Str := ⟨fun h => by cases h; rfl⟩
instance {α : Type} [Enc α] [Pu α] : Pu (Option α) := ⟨fun {K H v a fp} h => by
  cases a with
  | none => cases h; rfl
  | some a => exact Pu.pu (a := a) h⟩
theorem ima1 {K : PySem.W.Frag} {H : Hp} {vs : List V} {d : PyData} {fp : List Addr} (h : ImA K H vs [d] fp) : ∃ v, vs = [v] ∧ Im K H v d fp := by
  cases h with
  | cons a b q =>
    cases b
    subst q
    rw [List.append_nil]
    exact ⟨_, rfl, a⟩
theorem ima2 {K : PySem.W.Frag} {H : Hp} {vs : List V} {d e : PyData} {fp : List Addr} (h : ImA K H vs [d, e] fp) : ∃ v w f1 f2, vs = [v, w] ∧ Im K H v d f1 ∧ Im K H w e f2 ∧ fp = f1 ++ f2 := by
  cases h with
  | cons a b q =>
    obtain ⟨w, rfl, hw⟩ := ima1 b
    exact ⟨_, w, _, _, rfl, a, hw, q⟩
theorem ima3 {K : PySem.W.Frag} {H : Hp} {vs : List V} {d e f : PyData} {fp : List Addr} (h : ImA K H vs [d, e, f] fp) : ∃ v w u f1 f2 f3, vs = [v, w, u] ∧ Im K H v d f1 ∧ Im K H w e f2 ∧ Im K H u f f3 ∧ fp = f1 ++ (f2 ++ f3) := by
  cases h with
  | cons a b q =>
    obtain ⟨w, u, f2, f3, rfl, hw, hu, e⟩ := ima2 b
    exact ⟨_, w, u, _, _, _, rfl, a, hw, hu, by rw [q, e]⟩
theorem ima4 {K : PySem.W.Frag} {H : Hp} {vs : List V} {d e f g : PyData} {fp : List Addr} (h : ImA K H vs [d, e, f, g] fp) : ∃ v w u x f1 f2 f3 f4, vs = [v, w, u, x] ∧ Im K H v d f1 ∧ Im K H w e f2 ∧ Im K H u f f3 ∧ Im K H x g f4 ∧ fp = f1 ++ (f2 ++ (f3 ++ f4)) := by
  cases h with
  | cons a b q =>
    obtain ⟨w, u, x, f2, f3, f4, rfl, hw, hu, hx, e⟩ := ima3 b
    exact ⟨_, w, u, x, _, _, _, _, rfl, a, hw, hu, hx, by rw [q, e]⟩
instance {α β : Type} [Enc α] [Enc β] [Pu α] [Pu β] : Pu (α × β) := ⟨fun {K H v a fp} h => by
  cases h with
  | tup e b =>
    obtain ⟨v, w, f1, f2, rfl, h1, h2, rfl⟩ := ima2 b
    rw [Pu.pu h1, Pu.pu h2]; rfl⟩
instance {α β γ : Type} [Enc α] [Enc β] [Enc γ] [Pu α] [Pu β] [Pu γ] : Pu (T3 α β γ) := ⟨fun {K H v a fp} h => by
  cases h with
  | tup e b =>
    obtain ⟨v, w, u, f1, f2, f3, rfl, h1, h2, h3, rfl⟩ := ima3 b
    rw [Pu.pu h1, Pu.pu h2, Pu.pu h3]; rfl⟩
instance {α β γ δ : Type} [Enc α] [Enc β] [Enc γ] [Enc δ] [Pu α] [Pu β] [Pu γ] [Pu δ] : Pu (T4 α β γ δ) := ⟨fun {K H v a fp} h => by
  cases h with
  | tup e b =>
    obtain ⟨v, w, u, x, f1, f2, f3, f4, rfl, h1, h2, h3, h4, rfl⟩ := ima4 b
    rw [Pu.pu h1, Pu.pu h2, Pu.pu h3, Pu.pu h4]; rfl⟩
theorem ima_pu {α : Type} [Enc α] [Pu α] {K : PySem.W.Frag} {H : Hp} : ∀ {xs : List α} {vs : List V} {fp : List Addr}, ImA K H vs (xs.map enc) fp → fp = []
  | [], _, _, h => by cases h; rfl
  | x :: xs, _, _, h => by
    cases h with
    | cons a b q => rw [q, Pu.pu a, ima_pu b]; rfl
instance {α : Type} [Enc α] [Pu α] : Pu (List α) := ⟨fun {K H v a fp} h => by
  cases h with
  | tup e b => exact ima_pu b⟩
/-! ## heaps -/
structure Fr (K : PySem.W.Frag) (po : Option Addr) (H H' : Hp) : Prop where
  keep : ∀ b o, po ≠ some b → H b = some o → (∀ ps, o ≠ .tbl ps) → H' b = some o
  tup : ∀ b xs, TupX H b xs → TupX H' b xs
section
variable {K : PySem.W.Frag} {po : Option Addr} {H H1 H' : Hp} {T : List (Addr × Str)} {n n1 n' : Nat}
theorem Fr.refl : Fr K po H H := ⟨fun _ _ _ h _ => h, fun _ _ h => h⟩
theorem Fr.trans (x : Fr K po H H1) (y : Fr K po H1 H') : Fr K po H H' := ⟨fun b o p h t => y.keep b o p (x.keep b o p h t) t, fun b xs h => y.tup b xs (x.tup b xs h)⟩
theorem Fr.same (s : Same H H') : Fr K po H H' := ⟨fun b o _ h _ => s b o h, fun _ _ h => s _ _ h⟩
theorem Fr.ext (s : ExtN H H') : Fr K po H H' := ⟨fun b o _ h t => s b o h t, fun _ c h => s _ _ h fun ps z => by cases c <;> cases z⟩
theorem Fr.weak (x : Fr K none H H') : Fr K po H H' := ⟨fun b o _ h t => x.keep b o (by simp) h t, x.tup⟩
theorem Fr.keeps {a : Addr} {l : List V} (ha : H a = some (.lst l)) (k : Keeps a H H') : Fr K (some a) H H' := ⟨fun b o p h _ => k b o (fun e => p (by rw [e])) h, fun _ c h => k _ _ (fun e => by unfold TupX at h; rw [e, ha] at h; cases c <;> cases h) h⟩
structure Af (K : PySem.W.Frag) (T : List (Addr × Str)) (po : Option Addr) (H : Hp) (n : Nat) (H' : Hp) (n' : Nat) : Prop where
  fr : Fr K po H H'
  tabs : Tabs T H → Tabs T H'
  pot : ∀ a, po = some a → Pot H a n → Pot H' a n'
theorem Af.refl : Af K T po H n H n := ⟨Fr.refl, id, fun _ _ h => h⟩
theorem Af.trans (x : Af K T po H n H1 n1) (y : Af K T po H1 n1 H' n') : Af K T po H n H' n' := ⟨x.fr.trans y.fr, fun t => y.tabs (x.tabs t), fun a e p => y.pot a e (x.pot a e p)⟩
theorem Af.same (s : Same H H') : Af K T po H n H' n := ⟨Fr.same s, fun t => t.ext s, fun a e p => p.same s⟩
theorem Af.new {p : Addr} {o : HO} (np : H p = none) : Af K T po H n (upd H p o) n := Af.same (same_new (Same.refl H) np)
def Fsh (H : Hp) (b : Addr) : Prop := ∀ o, H b = some o → ∃ ps, o = .tbl ps
def Fp (H : Hp) (po : Option Addr) (fr : Bool) (fp : List Addr) : Prop := (∀ b ∈ fp, po ≠ some b) ∧ (fr = true → fp.Nodup ∧ ∀ b ∈ fp, Fsh H b)
theorem Fp.nil {fr : Bool} : Fp H po fr [] := ⟨fun b h => absurd h List.not_mem_nil, fun _ => ⟨List.nodup_nil, fun b h => absurd h List.not_mem_nil⟩⟩
theorem Fsh.back {b : Addr} (f : Fr K po H H') (hb : po ≠ some b) (h : Fsh H' b) : Fsh H b := fun o e => by
  by_cases z : ∃ ps, o = .tbl ps
  · exact z
  · exact h o (f.keep b o hb e fun ps q => z ⟨ps, q⟩)
theorem Fp.back {fr : Bool} {fp : List Addr} (f : Fr K po H H') (h : Fp H' po fr fp) : Fp H po fr fp := ⟨h.1, fun e => ⟨(h.2 e).1, fun b hb => Fsh.back f (h.1 b hb) ((h.2 e).2 b hb)⟩⟩
theorem Fp.weak {fr : Bool} {fp : List Addr} (h : Fp H po fr fp) : Fp H po false fp := ⟨h.1, fun e => nomatch e⟩
theorem Im.af {v : V} {d : PyData} {fp : List Addr} (h : Im K H v d fp) (hp : ∀ b ∈ fp, po ≠ some b) (f : Fr K po H H') : Im K H' v d fp := Im.stab f.tup d v fp h fun b hb o e m => f.keep b _ (hp b hb) e m.tbl
theorem ImA.af {vs : List V} {ds : List PyData} {fp : List Addr} (h : ImA K H vs ds fp) (hp : ∀ b ∈ fp, po ≠ some b) (f : Fr K po H H') : ImA K H' vs ds fp := ImA.stab f.tup ds vs fp h fun b hb o e m => f.keep b _ (hp b hb) e m.tbl
theorem Im.same {v : V} {d : PyData} {fp : List Addr} (h : Im K H v d fp) (s : Same H H') : Im K H' v d fp := h.af (po := none) (fun b _ => by simp) (Fr.same s)
theorem ImA.same {vs : List V} {ds : List PyData} {fp : List Addr} (h : ImA K H vs ds fp) (s : Same H H') : ImA K H' vs ds fp := h.af (po := none) (fun b _ => by simp) (Fr.same s)
end
/-! ## what the slots hold -/
inductive Sl where
  | any
  | pot
  | bor (d : PyData)
  | own (d : PyData)
  | scr (ns : List Int)
  | lkd (d : PyData)
  | borA (v : V) (fp : List Addr) (d : PyData)
/-- a list that stands from the start on, whatever is done -/
def ScrOk (K : PySem.W.Frag) (Bs : Addr → HO → Prop) (a : Addr) (vs : List V) : Prop := (∃ o, Bs a o ∧ (o = .lst vs ∨ ∃ z, o = .frz z (.lst vs))) ∨
  ∃ (o : Obj) (its : Array Value) (n : Nat), K.lookup a = some o ∧ o.cls = .type "list" ∧ o.dict = none ∧ o.data = .seq its n ∧ its.size ≤ sizeLine ∧ Vals vs its.toList
/-- what a dict holds, flat values only -/
def DcOk (K : PySem.W.Frag) (H : Hp) (u : HO) (d : PyData) : Prop := (∃ kvs ps, u = .dK kvs ∧ d = .dict ((.none, .none) :: ps) ∧ ps.map Prod.fst = kvs.map (fun kv => kD kv.1) ∧ ImA K H (kvs.map Prod.snd) (ps.map Prod.snd) []) ∨
  ∃ kvs ps, u = .dT kvs ∧ d = .dict ps ∧ ps.map Prod.fst = kvs.map (fun kv => .tuple (kv.1.map kD)) ∧ ImA K H (kvs.map Prod.snd) (ps.map Prod.snd) []
theorem DcOk.af {K : PySem.W.Frag} {po : Option Addr} {H H' : Hp} {u : HO} {d : PyData} (h : DcOk K H u d) (f : Fr K po H H') : DcOk K H' u d := by
  rcases h with ⟨kvs, ps, h1, h2, h3, h4⟩ | ⟨kvs, ps, h1, h2, h3, h4⟩
  · exact .inl ⟨kvs, ps, h1, h2, h3, h4.af (po := po) (fun b hb => absurd hb List.not_mem_nil) f⟩
  · exact .inr ⟨kvs, ps, h1, h2, h3, h4.af (po := po) (fun b hb => absurd hb List.not_mem_nil) f⟩
def SlOk (K : PySem.W.Frag) (Bs : Addr → HO → Prop) (po : Option Addr) (H : Hp) (ov : Option (Option V)) (s : Sl) (fp : List Addr) : Prop := match s with
  | .any => True
  | .pot => ∃ a, po = some a ∧ ov = some (some (.ref a))
  | .bor d => ∃ v, ov = some (some v) ∧ Im K H v d fp ∧ ∀ b ∈ fp, po ≠ some b ∧ ∃ o, Bs b o
  | .own d => ∃ v, ov = some (some v) ∧ Im K H v d fp ∧ fp.Nodup ∧ ∀ b ∈ fp, po ≠ some b ∧ ∀ o, ¬ Bs b o
  | .scr ns => ∃ a, ov = some (some (.ref a)) ∧ ScrOk K Bs a (ns.map V.int)
  | .lkd d => ∃ a od u, ov = some (some (.ref a)) ∧ po ≠ some a ∧ H a = some (.frz od u) ∧ DcOk K H u d
  | .borA v fq d => ov = some (some v) ∧ Im K H v d fq ∧ ∀ b ∈ fq, po ≠ some b ∧ ∃ o, Bs b o
structure ST (K : PySem.W.Frag) (T : List (Addr × Str)) (Bs : Addr → HO → Prop) (po : Option Addr) (ρ : List Sl) (φ : Nat → List Addr) (σ : L2.St) (H : Hp) (n : Nat) : Prop where
  tabs : Tabs T H
  base : ∀ b o, Bs b o → H b = some o ∧ (∀ ps, o ≠ .tbl ps) ∧ po ≠ some b
  pot : ∀ a, po = some a → Pot H a n
  len : σ.length = ρ.length
  sl : ∀ i s, ρ[i]? = some s → SlOk K Bs po H σ[i]? s (φ i)
  dis : ∀ i j d e, i ≠ j → ρ[i]? = some (.own d) → ρ[j]? = some (.own e) → ∀ b ∈ φ i, b ∉ φ j
def STe (K : PySem.W.Frag) (T : List (Addr × Str)) (Bs : Addr → HO → Prop) (po : Option Addr) (ρ : List Sl) (σ : L2.St) (H : Hp) (n : Nat) : Prop := ∃ φ, ST K T Bs po ρ φ σ H n
section
variable {K : PySem.W.Frag} {T : List (Addr × Str)} {Bs : Addr → HO → Prop} {po : Option Addr} {ρ : List Sl} {φ : Nat → List Addr} {σ : L2.St} {H H' : Hp} {n n' : Nat}
theorem SlOk.af {ov : Option (Option V)} {s : Sl} {fp : List Addr} (h : SlOk K Bs po H ov s fp) (f : Fr K po H H') : SlOk K Bs po H' ov s fp := by
  cases s with
  | any => exact h
  | pot => exact h
  | scr ns => exact h
  | lkd d => obtain ⟨a, od, u, h1, h2, h3, h4⟩ := h; exact ⟨a, od, u, h1, h2, f.keep a _ h2 h3 (fun ps z => nomatch z), h4.af f⟩
  | borA v fq d => exact ⟨h.1, h.2.1.af (fun b hb => (h.2.2 b hb).1) f, h.2.2⟩
  | bor d => obtain ⟨v, h1, h2, h3⟩ := h; exact ⟨v, h1, h2.af (fun b hb => (h3 b hb).1) f, h3⟩
  | own d => obtain ⟨v, h1, h2, h3, h4⟩ := h; exact ⟨v, h1, h2.af (fun b hb => (h4 b hb).1) f, h3, h4⟩
theorem ST.af (h : ST K T Bs po ρ φ σ H n) (a : Af K T po H n H' n') : ST K T Bs po ρ φ σ H' n' where
  tabs := a.tabs h.tabs
  base := fun b o z => by
    obtain ⟨h1, h2, h3⟩ := h.base b o z
    exact ⟨a.fr.keep b o h3 h1 h2, h2, h3⟩
  pot := fun p e => a.pot p e (h.pot p e)
  len := h.len
  sl := fun i s e => (h.sl i s e).af a.fr
  dis := h.dis
theorem pot_lst {a : Addr} (h : Pot H a n) : ∃ l, H a = some (.lst l) := let ⟨_, _, _, e, _⟩ := h; ⟨_, e⟩
/-- something new is not the pot, nor in what slots hold -/
theorem ST.fresh_pot (h : ST K T Bs po ρ φ σ H n) {b : Addr} (f : Fsh H b) : po ≠ some b := fun e => by
  obtain ⟨l, hl⟩ := pot_lst (h.pot b e)
  obtain ⟨ps, z⟩ := f _ hl
  cases z
theorem ST.fresh_bs (h : ST K T Bs po ρ φ σ H n) {b : Addr} (f : Fsh H b) : ∀ o, ¬ Bs b o := fun o z => by
  obtain ⟨h1, h2, h3⟩ := h.base b o z
  obtain ⟨ps, q⟩ := f _ h1
  exact h2 ps q
theorem ST.fresh_own (h : ST K T Bs po ρ φ σ H n) {b : Addr} (f : Fsh H b) {i : Nat} {d : PyData} (e : ρ[i]? = some (.own d)) : b ∉ φ i := fun z => by
  obtain ⟨v, h1, h2, h3, h4⟩ := h.sl i _ e
  obtain ⟨l, hl, hm⟩ := Im.mtb _ _ _ h2 b z
  obtain ⟨ps, q⟩ := f _ hl
  exact hm.tbl ps q
/-- a slot is set to something new -/
theorem ST.set (h : ST K T Bs po ρ φ σ H n) (a : Af K T po H n H' n') {i : Nat} (hi : i < ρ.length) {v : V} {d : PyData} {fp : List Addr} (hv : Im K H' v d fp) (hf : Fp H po true fp) :
    ST K T Bs po (ρ.set i (.own d)) (fun j => if j = i then fp else φ j) (σ.set i (some v)) H' n' := by
  have h' := h.af a
  obtain ⟨hp, hn⟩ := hf
  obtain ⟨hnd, hfs⟩ := hn rfl
  refine ⟨h'.tabs, h'.base, h'.pot, by rw [List.length_set, List.length_set, h.len], fun j s e => ?_, fun j k d1 e1 hjk ej ek => ?_⟩
  · rw [List.getElem?_set] at e ⊢
    by_cases hij : i = j
    · subst hij
      rw [if_pos rfl, if_pos hi] at e
      obtain rfl : Sl.own d = s := Option.some.inj e
      rw [if_pos rfl, if_pos (by rw [h.len]; exact hi)]
      show SlOk K Bs po H' _ _ (if i = i then fp else φ i)
      rw [if_pos rfl]
      exact ⟨v, rfl, hv, hnd, fun b hb => ⟨hp b hb, h.fresh_bs (hfs b hb)⟩⟩
    · rw [if_neg hij] at e ⊢
      show SlOk K Bs po H' _ _ (if j = i then fp else φ j)
      rw [if_neg (Ne.symm hij)]
      exact h'.sl j s e
  · show ∀ b ∈ (if j = i then fp else φ j), b ∉ (if k = i then fp else φ k)
    rw [List.getElem?_set] at ej ek
    by_cases hji : i = j
    · subst hji
      rw [if_pos rfl]
      rw [if_neg hjk] at ek
      rw [if_neg (Ne.symm hjk)]
      exact fun b hb => h.fresh_own (hfs b hb) ek
    · rw [if_neg hji] at ej
      rw [if_neg (Ne.symm hji)]
      by_cases hki : i = k
      · subst hki
        rw [if_pos rfl]
        exact fun b hb z => h.fresh_own (hfs b z) ej hb
      · rw [if_neg hki] at ek
        rw [if_neg (Ne.symm hki)]
        exact h.dis j k d1 e1 hjk ej ek
/-- less is known -/
inductive SlLe : Sl → Sl → Prop
  | any (s : Sl) : SlLe .any s
  | eq (s : Sl) : SlLe s s
def RhoLe : List Sl → List Sl → Prop
  | [], [] => True
  | s :: ss, t :: ts => SlLe s t ∧ RhoLe ss ts
  | _, _ => False
theorem RhoLe.refl : ∀ ρ : List Sl, RhoLe ρ ρ
  | [] => trivial
  | s :: ss => ⟨.eq s, RhoLe.refl ss⟩
theorem RhoLe.len : ∀ {ρ1 ρ2 : List Sl}, RhoLe ρ1 ρ2 → ρ1.length = ρ2.length
  | [], [], _ => rfl
  | s :: ss, t :: ts, h => by rw [List.length_cons, List.length_cons, RhoLe.len h.2]
theorem RhoLe.get : ∀ {ρ1 ρ2 : List Sl}, RhoLe ρ1 ρ2 → ∀ {i : Nat} {s : Sl}, ρ1[i]? = some s → ∃ t, ρ2[i]? = some t ∧ SlLe s t
  | [], [], _, _, _, e => by cases e
  | s :: ss, t :: ts, h, 0, _, e => by
    obtain rfl : s = _ := Option.some.inj e
    exact ⟨t, rfl, h.1⟩
  | s :: ss, t :: ts, h, i + 1, _, e => RhoLe.get h.2 (i := i) e
theorem ST.le {ρ1 : List Sl} (h : ST K T Bs po ρ φ σ H n) (l : RhoLe ρ1 ρ) : ST K T Bs po ρ1 φ σ H n where
  tabs := h.tabs
  base := h.base
  pot := h.pot
  len := h.len.trans l.len.symm
  sl := fun i s e => by
    obtain ⟨t, h1, h2⟩ := l.get e
    cases h2 with
    | any => trivial
    | eq => exact h.sl i _ h1
  dis := fun i j d e hij ei ej => by
    obtain ⟨t, h1, h2⟩ := l.get ei
    obtain ⟨u, h3, h4⟩ := l.get ej
    cases h2
    cases h4
    exact h.dis i j d e hij h1 h3
/-- an own list is only read from now on -/
theorem ST.freeze (h : ST K T Bs po ρ φ σ H n) {i : Nat} {d : PyData} (hi : ρ[i]? = some (.own d)) :
    ST K T (fun b o => Bs b o ∨ (b ∈ φ i ∧ H b = some o)) po (ρ.set i (.bor d)) φ σ H n := by
  obtain ⟨v, h1, h2, h3, h4⟩ := h.sl i _ hi
  have hil := (List.getElem?_eq_some_iff.mp hi).1
  refine ⟨h.tabs, fun b o z => ?_, h.pot, by rw [List.length_set]; exact h.len, fun j s e => ?_, fun j k d1 e1 hjk ej ek => ?_⟩
  · rcases z with z | ⟨z, e⟩
    · exact h.base b o z
    · obtain ⟨l, hl, hm⟩ := Im.mtb _ _ _ h2 b z
      rw [e] at hl
      cases hl
      exact ⟨e, hm.tbl, (h4 b z).1⟩
  · rw [List.getElem?_set] at e
    by_cases hij : i = j
    · subst hij
      rw [if_pos rfl, if_pos hil] at e
      obtain rfl : Sl.bor d = s := Option.some.inj e
      refine ⟨v, h1, h2, fun b hb => ⟨(h4 b hb).1, ?_⟩⟩
      obtain ⟨l, hl, _⟩ := Im.mtb _ _ _ h2 b hb
      exact ⟨_, .inr ⟨hb, hl⟩⟩
    · rw [if_neg hij] at e
      have z := h.sl j s e
      cases s with
      | any => trivial
      | pot => exact z
      | scr ns => obtain ⟨a, z1, z2⟩ := z; exact ⟨a, z1, z2.elim (fun ⟨o, q1, q2⟩ => .inl ⟨o, .inl q1, q2⟩) .inr⟩
      | lkd d' => exact z
      | borA v' fq d' => exact ⟨z.1, z.2.1, fun b hb => ⟨(z.2.2 b hb).1, let ⟨o, q⟩ := (z.2.2 b hb).2; ⟨o, .inl q⟩⟩⟩
      | bor d' => obtain ⟨v', z1, z2, z3⟩ := z; exact ⟨v', z1, z2, fun b hb => ⟨(z3 b hb).1, let ⟨o, q⟩ := (z3 b hb).2; ⟨o, .inl q⟩⟩⟩
      | own d' =>
        obtain ⟨v', z1, z2, z3, z4⟩ := z
        refine ⟨v', z1, z2, z3, fun b hb => ⟨(z4 b hb).1, fun o q => ?_⟩⟩
        rcases q with q | ⟨q, _⟩
        · exact (z4 b hb).2 o q
        · exact h.dis i j d d' hij hi e b q hb
  · rw [List.getElem?_set] at ej ek
    by_cases hij : i = j
    · rw [if_pos hij] at ej
      split at ej
      · cases ej
      · cases ej
    · rw [if_neg hij] at ej
      by_cases hik : i = k
      · rw [if_pos hik] at ek
        split at ek
        · cases ek
        · cases ek
      · rw [if_neg hik] at ek
        exact h.dis j k d1 e1 hjk ej ek
end
end Bf
namespace Bf
open PySem PySem.Spec PyProof.Rows L2 LamX NdefX
/-! ## what must hold for an answer, the count of draws with it -/
abbrev M (α : Type) := Nat → (α → Nat → Prop) → Prop
def retW {α : Type} (a : α) : M α := fun n P => P a n
def bindW {α β : Type} (m : M α) (k : α → M β) : M β := fun n P => m n fun a n' => k a n' P
def reqW {α : Type} (c : Prop) (m : M α) : M α := fun n P => c ∧ m n P
def pureW {α : Type} (m : M α) : M α := fun n P => m 0 fun a _ => P a n
def b2W {α β γ : Type} (ma : M α) (mb : M β) (f : α → β → M γ) : M γ := fun n P => ma n fun a n1 => mb n1 fun b n2 => f a b n2 P
section
variable {K : PySem.W.Frag} {T : List (Addr × Str)} {ρ : List Sl}
variable {α β γ : Type} [Enc α] [Enc β] [Enc γ]
def RE (K : PySem.W.Frag) (T : List (Addr × Str)) (t : TE) (ρ : List Sl) (fr : Bool) {α : Type} [Enc α] (m : M α) : Prop := ∀ (Bs : Addr → HO → Prop) (po : Option Addr) (φ : Nat → List Addr) (σ : L2.St) (H : Hp) (n : Nat), ST K T Bs po ρ φ σ H n → ∀ P : α → Nat → Prop, m n P →
  ∀ Q : VK, (∀ (a : α) (n' : Nat) (v : V) (H' : Hp) (fp : List Addr), P a n' → Af K T po H n H' n' → Im K H' v (enc a) fp → Fp H po fr fp → Q v H') → t σ H Q
def RT (K : PySem.W.Frag) (T : List (Addr × Str)) (t : TT) (ρ : List Sl) (m : M Bool) : Prop := ∀ (Bs : Addr → HO → Prop) (po : Option Addr) (φ : Nat → List Addr) (σ : L2.St) (H : Hp) (n : Nat), ST K T Bs po ρ φ σ H n → ∀ P : Bool → Nat → Prop, m n P →
  ∀ Q : Bool → Hp → Prop, (∀ (a : Bool) (n' : Nat) (H' : Hp), P a n' → Af K T po H n H' n' → Q a H') → t σ H Q
theorem RE.weak {t : TE} {fr : Bool} {m : M α} (h : RE K T t ρ fr m) : RE K T t ρ false m := fun Bs po φ σ H n st P p Q q => h Bs po φ σ H n st P p Q fun a n' v H' fp pa af im f => q a n' v H' fp pa af im f.weak
theorem RE.pu [Pu α] {t : TE} {fr : Bool} {m : M α} (h : RE K T t ρ fr m) : RE K T t ρ true m := fun Bs po φ σ H n st P p Q q => h Bs po φ σ H n st P p Q fun a n' v H' fp pa af im f => q a n' v H' fp pa af im (by rw [Pu.pu im]; exact Fp.nil)
/-! ### names, written values -/
theorem re_own {i : Nat} {a : α} (hi : ρ[i]? = some (.own (enc a))) : RE K T (tVar i) ρ false (retW a) := fun Bs po φ σ H n st P p Q q => by
  obtain ⟨v, h1, h2, h3, h4⟩ := st.sl i _ hi
  exact ⟨v, h1, q a n v H _ p Af.refl h2 ⟨fun b hb => (h4 b hb).1, fun e => nomatch e⟩⟩
theorem re_bor {i : Nat} {a : α} (hi : ρ[i]? = some (.bor (enc a))) : RE K T (tVar i) ρ false (retW a) := fun Bs po φ σ H n st P p Q q => by
  obtain ⟨v, h1, h2, h3⟩ := st.sl i _ hi
  exact ⟨v, h1, q a n v H _ p Af.refl h2 ⟨fun b hb => (h3 b hb).1, fun e => nomatch e⟩⟩
theorem re_v [Pu α] {i : Nat} {a : α} (hi : ρ[i]? = some (.own (enc a))) : RE K T (tVar i) ρ true (retW a) := (re_own hi).pu
theorem re_nat (k : Nat) : RE K T (tC (.int (k : Int))) ρ true (retW k) := fun Bs po φ σ H n st P p Q q => q k n _ H [] p Af.refl (.int _) Fp.nil
theorem re_int (k : Int) : RE K T (tC (.int k)) ρ true (retW k) := fun Bs po φ σ H n st P p Q q => q k n _ H [] p Af.refl (.int _) Fp.nil
theorem re_bool (k : Bool) : RE K T (tC (.bl k)) ρ true (retW k) := fun Bs po φ σ H n st P p Q q => q k n _ H [] p Af.refl (.bl _) Fp.nil
theorem re_unit : RE K T (tC .non) ρ true (retW ()) := fun Bs po φ σ H n st P p Q q => q () n _ H [] p Af.refl .non Fp.nil
theorem re_str (x : Str) : RE K T (tC (.str x)) ρ true (retW x) := fun Bs po φ σ H n st P p Q q => q x n _ H [] p Af.refl (.str _) Fp.nil
/-- the same value as another kind of data -/
def mapW (f : α → β) (m : M α) : M β := bindW m fun a => retW (f a)
theorem re_as {t : TE} {fr : Bool} {m : M α} (f : α → β) (hf : ∀ a, enc (f a) = enc a) (h : RE K T t ρ fr m) : RE K T t ρ fr (mapW f m) := fun Bs po φ σ H n st P p Q q => h Bs po φ σ H n st _ p Q fun a n' v H' fp pa af im f' => q (f a) n' v H' fp pa af (by rw [hf]; exact im) f'
theorem re_ofN {t : TE} {fr : Bool} {m : M Nat} (h : RE K T t ρ fr m) : RE K T t ρ fr (mapW (fun n : Nat => (n : Int)) m) := re_as (fun n : Nat => (n : Int)) (fun _ => rfl) h
/-! ### two parts and what is made of them -/
def OpW (K : PySem.W.Frag) {α β γ : Type} [Enc α] [Enc β] [Enc γ] (r : R2) (f : α → β → M γ) : Prop := ∀ (a : α) (b : β) (H : Hp) (v w : V) (fp fq : List Addr), Im K H v (enc a) fp → Im K H w (enc b) fq → ∀ n (P : γ → Nat → Prop), f a b n P →
  ∀ Q : VK, (∀ (c : γ) (H' : Hp) (v' : V) (fr : List Addr), P c n → Same H H' → Im K H' v' (enc c) fr → (fr.Nodup ∧ ∀ x ∈ fr, H x = none) → Q v' H') → r v w H Q
theorem fp_new {H : Hp} {po : Option Addr} {fp : List Addr} {T : List (Addr × Str)} {Bs : Addr → HO → Prop} {φ : Nat → List Addr} {σ : L2.St} {n : Nat} (st : ST K T Bs po ρ φ σ H n) (h : fp.Nodup ∧ ∀ x ∈ fp, H x = none) : Fp H po true fp :=
  ⟨fun b hb => st.fresh_pot fun o e => (by rw [h.2 b hb] at e; cases e), fun _ => ⟨h.1, fun b hb o e => (by rw [h.2 b hb] at e; cases e)⟩⟩
theorem re_op {ta tb : TE} {ma : M α} {mb : M β} {f : α → β → M γ} {r : R2} {f1 f2 : Bool} (hr : OpW K r f) (ha : RE K T ta ρ f1 ma) (hb : RE K T tb ρ f2 mb) : RE K T (tOp r ta tb) ρ true (b2W ma mb f) := fun Bs po φ σ H n st P p Q q =>
  ha Bs po φ σ H n st _ p _ fun a n1 v H1 fp pa a1 i1 g1 => hb Bs po φ σ H1 n1 (st.af a1) _ pa _ fun b n2 w H2 fq pb a2 i2 g2 =>
    hr a b H2 v w fp fq (i1.af g1.1 a2.fr) i2 n2 _ pb Q fun c H3 v' fr pc s3 i3 g3 => by
      have a12 := a1.trans a2
      exact q c n2 v' H3 fr pc (a12.trans (Af.same s3)) i3 (Fp.back a12.fr (fp_new (st.af a12) g3))
theorem opw_pure {α β γ : Type} [Enc α] [Enc β] [Enc γ] {r : R2} {f : α → β → M γ} (g : ∀ (a : α) (b : β) (H : Hp) (v w : V) (fp fq : List Addr), Im K H v (enc a) fp → Im K H w (enc b) fq → ∀ n (P : γ → Nat → Prop), f a b n P → ∃ c v', P c n ∧ Im K H v' (enc c) [] ∧ ∀ Q : VK, Q v' H → r v w H Q) : OpW K r f :=
  fun a b H v w fp fq i1 i2 n P p Q q => by
    obtain ⟨c, v', h1, h2, h3⟩ := g a b H v w fp fq i1 i2 n P p
    exact h3 Q (q c H v' [] h1 (Same.refl H) h2 ⟨List.nodup_nil, fun x h => absurd h List.not_mem_nil⟩)
/-! numbers from nought on -/
theorem opw_n0 {r : R2} {g : Nat → Nat → Nat} (h : ∀ (a b : Nat) H Q, Q (.int ((g a b : Nat) : Int)) H → r (.int (a : Int)) (.int (b : Int)) H Q) : OpW K r (fun a b : Nat => retW (g a b)) :=
  opw_pure fun a b H v w fp fq i1 i2 n P p => by
    cases i1
    cases i2
    exact ⟨g a b, _, p, .int _, fun Q q => h a b H Q q⟩
theorem opw_z0 {r : R2} {g : Int → Int → Int} (h : ∀ (a b : Int) H Q, Q (.int (g a b)) H → r (.int a) (.int b) H Q) : OpW K r (fun a b : Int => retW (g a b)) :=
  opw_pure fun a b H v w fp fq i1 i2 n P p => by
    cases i1
    cases i2
    exact ⟨g a b, _, p, .int _, fun Q q => h a b H Q q⟩
theorem opw_nb {r : R2} {g : Nat → Nat → Bool} (h : ∀ (a b : Nat) H Q, Q (.bl (g a b)) H → r (.int (a : Int)) (.int (b : Int)) H Q) : OpW K r (fun a b : Nat => retW (g a b)) :=
  opw_pure fun a b H v w fp fq i1 i2 n P p => by
    cases i1
    cases i2
    exact ⟨g a b, _, p, .bl _, fun Q q => h a b H Q q⟩
theorem ow_add : OpW K (rI0 fun i j => .int (i + j)) (fun a b : Int => retW (a + b)) := opw_z0 fun a b H Q q => ⟨a, b, rfl, rfl, q⟩
/-- numbers compared -/
theorem ow_cmpN {g : Int → Int → Bool} {p : Nat → Nat → Bool} (hp : ∀ a b : Nat, g (a : Int) (b : Int) = p a b) : OpW K (rI0 fun i j => .bl (g i j)) (fun a b : Nat => retW (p a b)) := opw_nb fun a b H Q q => ⟨a, b, rfl, rfl, by show Q (.bl (g (a : Int) (b : Int))) H; rw [hp]; exact q⟩
theorem ow_ltN : OpW K (rI0 fun i j => .bl (decide (i < j))) (fun a b : Nat => retW (decide (a < b))) := ow_cmpN fun a b => by simp
theorem ow_gtN : OpW K (rI0 fun i j => .bl (decide (j < i))) (fun a b : Nat => retW (decide (b < a))) := ow_cmpN fun a b => by simp
theorem ow_neB : OpW K rNe (fun a b : Bool => retW (!decide (a = b))) := opw_pure fun a b H v w fp fq i1 i2 n P p => by
  cases i1
  cases i2
  exact ⟨_, _, p, .bl _, fun Q q => ⟨rfl, by
    have e : decide (V.bl a = V.bl b) = decide (a = b) := by simp
    rw [e]; exact q⟩⟩
theorem ow_neS : OpW K rNe (fun a b : Str => retW (!decide (a = b))) := opw_pure fun a b H v w fp fq i1 i2 n P p => by
  cases i1
  cases i2
  exact ⟨_, _, p, .bl _, fun Q q => ⟨rfl, by
    have e : decide (V.str a = V.str b) = decide (a = b) := by simp
    rw [e]; exact q⟩⟩
/-- any data compared -/
def shapeOk (d : PyData) : Prop := SeqAt.shaped d = true ∧ d.hasDict = false
theorem ow_neD : OpW K (rNeD K) (fun (a : α) (b : β) => reqW (shapeOk (enc a) ∧ shapeOk (enc b)) (retW (!PyData.eqv (enc a) (enc b)))) := opw_pure fun a b H v w fp fq i1 i2 n P p =>
  ⟨_, _, p.2, .bl _, fun Q q => ⟨_, _, i1.dpD _ _ _ p.1.1.2, i2.dpD _ _ _ p.1.2.2, p.1.1.1, p.1.2.1, q⟩⟩
/-! ### tuples and lists by place -/
theorem im_lst {H : Hp} {v : V} {xs : Lst α} {fp : List Addr} (h : Im K H v (enc xs) fp) : ∃ a vs fq, v = .ref a ∧ H a = some (.lst vs) ∧ ImA K H vs (xs.l.map enc) fq ∧ fp = a :: fq := by
  cases h with
  | lst e a q => exact ⟨_, _, _, rfl, e, a, q⟩
theorem ima_at {H : Hp} {vs : List V} {xs : List α} {fp : List Addr} {i : Int} {a : α} [Pu α] (h : ImA K H vs (xs.map enc) fp) (e : atI xs i = some a) : ∃ v, atI vs i = some v ∧ Im K H v (enc a) [] := by
  unfold atI at e ⊢
  rw [h.len, List.length_map]
  cases hx : ixN xs.length i with
  | none => rw [hx] at e; cases e
  | some j =>
    rw [hx] at e
    have e : xs[j]? = some a := e
    obtain ⟨v, fq, h1, h2, h3⟩ := h.get (i := j) (d := enc a) (by rw [List.getElem?_map, e]; rfl)
    have := Pu.pu h2
    subst this
    exact ⟨v, h1, h2⟩
theorem ow_ixL [Pu α] : OpW K (rIxL K) (fun (xs : Lst α) (i : Int) n P => ∃ a, atI xs.l i = some a ∧ P a n) := opw_pure fun xs i H v w fp fq i1 i2 n P p => by
  obtain ⟨a, ea, pa⟩ := p
  obtain ⟨t, vs, fq', rfl, hT, hA, _⟩ := im_lst i1
  cases i2
  obtain ⟨u, h1, h2⟩ := ima_at hA ea
  exact ⟨a, u, pa, h2, fun Q q => ⟨t, vs, i, u, rfl, rfl, .inl (.inl hT), h1, q⟩⟩
theorem atN {xs : List α} {i : Nat} : atI xs (i : Int) = xs[i]? := by
  cases h : xs[i]? with
  | none =>
    have h1 := List.getElem?_eq_none_iff.mp h
    unfold atI ixN
    rw [if_pos (by omega), if_neg (by omega)]
    rfl
  | some a => exact atI_nat h
theorem ow_ixLN [Pu α] : OpW K (rIxL K) (fun (xs : Lst α) (i : Nat) n P => ∃ a, xs.l[i]? = some a ∧ P a n) := fun xs i H v w fp fq i1 i2 n P p => ow_ixL xs (i : Int) H v w fp fq i1 i2 n P (by obtain ⟨a, h1, h2⟩ := p; exact ⟨a, by rw [atN]; exact h1, h2⟩)
/-! pairs, threes by written places -/
/-! tuples joined -/
/-! lists joined -/
theorem nodup_app {xs ys : List Addr} (h1 : xs.Nodup) (h2 : ys.Nodup) (h : ∀ x ∈ xs, x ∉ ys) : (xs ++ ys).Nodup := List.nodup_append.mpr ⟨h1, h2, fun x hx y hy e => h x hx (by rw [e]; exact hy)⟩
theorem ow_catL [Pu α] : OpW K rCat (fun (xs ys : Lst α) => reqW (xs.l.length + ys.l.length ≤ sizeLine) (retW (⟨xs.l ++ ys.l⟩ : Lst α))) := fun xs ys H v w fp fq i1 i2 n P p Q q => by
  obtain ⟨a, vs, f1, rfl, hT, hA, _⟩ := im_lst i1
  obtain ⟨b, ws, f2, rfl, hT2, hA2, _⟩ := im_lst i2
  have e1 := ima_pu hA
  have e2 := ima_pu hA2
  subst e1 e2
  have hl1 := hA.len
  have hl2 := hA2.len
  rw [List.length_map] at hl1 hl2
  refine ⟨a, b, vs, ws, rfl, rfl, hT, hT2, by rw [hl1, hl2]; exact p.1, fun t nt => ?_⟩
  have s := same_new (Same.refl H) nt (o := .lst (vs ++ ws))
  refine q _ _ _ [t] p.2 s (.lst upd_same ?_ rfl) ⟨List.nodup_cons.mpr ⟨List.not_mem_nil, List.nodup_nil⟩, fun x hx => by rw [List.mem_singleton.mp hx]; exact nt⟩
  show ImA K _ _ ((xs.l ++ ys.l).map enc) []
  rw [List.map_append]
  exact (hA.app hA2).same s
theorem ow_repL [Pu α] : OpW K rRep (fun (xs : Lst α) (k : Int) => reqW (-(2 ^ 63) ≤ k ∧ k < 2 ^ 63 ∧ xs.l.length * k.toNat ≤ sizeLine) (retW (⟨(List.replicate k.toNat xs.l).flatten⟩ : Lst α))) := fun xs k H v w fp fq i1 i2 n P p Q q => by
  obtain ⟨a, vs, f1, rfl, hT, hA, _⟩ := im_lst i1
  have e1 := ima_pu hA
  subst e1
  cases i2
  have hl1 := hA.len
  rw [List.length_map] at hl1
  refine ⟨a, k, vs, rfl, rfl, hT, p.1.1, p.1.2.1, by rw [hl1]; exact p.1.2.2, fun t nt => ?_⟩
  have s := same_new (Same.refl H) nt (o := .lst (List.replicate k.toNat vs).flatten)
  refine q _ _ _ [t] p.2 s (.lst upd_same ?_ rfl) ⟨List.nodup_cons.mpr ⟨List.not_mem_nil, List.nodup_nil⟩, fun x hx => by rw [List.mem_singleton.mp hx]; exact nt⟩
  refine ImA.same ?_ s
  generalize k.toNat = m
  show ImA K H _ ((List.replicate m xs.l).flatten.map enc) []
  induction m with
  | zero => exact .nil
  | succ m ih =>
    rw [List.replicate_succ, List.replicate_succ, List.flatten_cons, List.flatten_cons, List.map_append]
    exact hA.app ih
/-! x in a tuple, a list of numbers -/
end
end Bf
namespace Bf
open PySem PySem.Spec PyProof.Rows L2 LamX NdefX
section
variable {K : PySem.W.Frag} {T : List (Addr × Str)} {ρ : List Sl}
variable {α β γ δ : Type} [Enc α] [Enc β] [Enc γ] [Enc δ]
/-! ### one part and what is made of it -/
def UnW (K : PySem.W.Frag) {α γ : Type} [Enc α] [Enc γ] (r : V → Hp → VK → Prop) (f : α → M γ) : Prop := ∀ (a : α) (H : Hp) (v : V) (fp : List Addr), Im K H v (enc a) fp → ∀ n (P : γ → Nat → Prop), f a n P →
  ∀ Q : VK, (∀ (c : γ) (H' : Hp) (v' : V) (fr : List Addr), P c n → Same H H' → Im K H' v' (enc c) fr → (fr.Nodup ∧ ∀ x ∈ fr, H x = none) → Q v' H') → r v H Q
theorem re_un {ta : TE} {t : TE} {ma : M α} {f : α → M γ} {r : V → Hp → VK → Prop} {f1 : Bool} (ht : ∀ σ H Q, (ta σ H fun x H1 => r x H1 Q) → t σ H Q) (hr : UnW K r f) (ha : RE K T ta ρ f1 ma) : RE K T t ρ true (bindW ma f) := fun Bs po φ σ H n st P p Q q =>
  ht σ H Q (ha Bs po φ σ H n st _ p _ fun a n1 v H1 fp pa a1 i1 g1 =>
    hr a H1 v fp i1 n1 _ pa Q fun c H3 v' fr pc s3 i3 g3 => q c n1 v' H3 fr pc (a1.trans (Af.same s3)) i3 (Fp.back a1.fr (fp_new (st.af a1) g3)))
theorem unw_pure {r : V → Hp → VK → Prop} {f : α → M γ} (g : ∀ (a : α) (H : Hp) (v : V) (fp : List Addr), Im K H v (enc a) fp → ∀ n (P : γ → Nat → Prop), f a n P → ∃ c v', P c n ∧ Im K H v' (enc c) [] ∧ ∀ Q : VK, Q v' H → r v H Q) : UnW K r f :=
  fun a H v fp i1 n P p Q q => by
    obtain ⟨c, v', h1, h2, h3⟩ := g a H v fp i1 n P p
    exact h3 Q (q c H v' [] h1 (Same.refl H) h2 ⟨List.nodup_nil, fun x h => absurd h List.not_mem_nil⟩)
/-- a built-in of two -/
theorem re_cb2 {ta tb : TE} {ma : M α} {mb : M β} {f : α → β → M γ} {r : List V → Hp → VK → Prop} {f1 f2 : Bool} (hr : OpW K (fun x y => r [x, y]) f) (ha : RE K T ta ρ f1 ma) (hb : RE K T tb ρ f2 mb) : RE K T (tCB r (tCons ta (tCons tb tNil))) ρ true (b2W ma mb f) :=
  fun Bs po φ σ H n st P p Q q => re_op (r := fun x y => r [x, y]) hr ha hb Bs po φ σ H n st P p Q q
theorem re_neg {ta : TE} {ma : M Int} {f1 : Bool} (ha : RE K T ta ρ f1 ma) : RE K T (tUn (rU fun i => .int (-i)) ta) ρ true (mapW (fun z : Int => -z) ma) := re_un (r := rU fun i => .int (-i)) (fun _ _ _ h => h)
  (unw_pure fun a H v fp i1 n P p => by cases i1; exact ⟨-a, _, p, .int _, fun Q q => ⟨a, rfl, q⟩⟩) ha
theorem ow_min : OpW K (fun x y H Q => ∃ i j, [x, y] = [.int i, .int j] ∧ Q (.int (if j < i then j else i)) H) (fun a b : Nat => retW (min a b)) := opw_n0 fun a b H Q q => ⟨a, b, rfl, by
  have e : (if (b : Int) < (a : Int) then (b : Int) else (a : Int)) = ((min a b : Nat) : Int) := by split <;> omega
  rw [e]; exact q⟩
theorem ow_max : OpW K (fun x y H Q => ∃ i j, [x, y] = [.int i, .int j] ∧ Q (.int (if j > i then j else i)) H) (fun a b : Nat => retW (max a b)) := opw_n0 fun a b H Q q => ⟨a, b, rfl, by
  have e : (if (b : Int) > (a : Int) then (b : Int) else (a : Int)) = ((max a b : Nat) : Int) := by split <;> omega
  rw [e]; exact q⟩
/-! repr -/
def ReprOk (d : PyData) : Prop := d.showable = true ∧ d.hasDict = false ∧ d.depth < 60 ∧ d.shown.length ≤ sizeLine
/-! slices -/
/-! displays -/
def RAs (K : PySem.W.Frag) (T : List (Addr × Str)) (t : TA) (ρ : List Sl) {α : Type} [Enc α] (m : M (List α)) : Prop := ∀ (Bs : Addr → HO → Prop) (po : Option Addr) (φ : Nat → List Addr) (σ : L2.St) (H : Hp) (n : Nat), ST K T Bs po ρ φ σ H n → ∀ P : List α → Nat → Prop, m n P →
  ∀ Q : List V → Hp → Prop, (∀ (a : List α) (n' : Nat) (vs : List V) (H' : Hp), P a n' → Af K T po H n H' n' → ImA K H' vs (a.map enc) [] → Q vs H') → t σ H Q
theorem ras_nil : RAs K T tNil ρ (retW ([] : List α)) := fun Bs po φ σ H n st P p Q q => q [] n [] H p Af.refl .nil
theorem ras_cons [Pu α] {t : TE} {tr : TA} {m : M α} {ms : M (List α)} {f : Bool} (h : RE K T t ρ f m) (hs : RAs K T tr ρ ms) : RAs K T (tCons t tr) ρ (b2W m ms fun a as => retW (a :: as)) := fun Bs po φ σ H n st P p Q q =>
  h Bs po φ σ H n st _ p _ fun a n1 v H1 fp pa a1 i1 g1 => hs Bs po φ σ H1 n1 (st.af a1) _ pa _ fun as n2 vs H2 pb a2 i2 => by
    have i1' := i1.af g1.1 a2.fr
    have := Pu.pu i1'
    subst this
    exact q _ n2 _ H2 pb (a1.trans a2) (.cons i1' i2 rfl)
theorem re_lst {t : TA} {m : M (List α)} (h : RAs K T t ρ m) : RE K T (tLst t) ρ true (bindW m fun xs => reqW (xs.length ≤ sizeLine) (retW (⟨xs⟩ : Lst α))) := fun Bs po φ σ H n st P p Q q =>
  h Bs po φ σ H n st _ p _ fun a n1 vs H1 pa a1 i1 => by
    have hl := i1.len
    rw [List.length_map] at hl
    refine ⟨by rw [hl]; exact pa.1, fun t nt => ?_⟩
    have s := same_new (Same.refl H1) nt (o := .lst vs)
    exact q _ n1 _ _ [t] pa.2 (a1.trans (Af.same s)) (.lst upd_same (i1.same s) rfl) (Fp.back a1.fr (fp_new (st.af a1) ⟨List.nodup_cons.mpr ⟨List.not_mem_nil, List.nodup_nil⟩, fun x hx => by rw [List.mem_singleton.mp hx]; exact nt⟩))
theorem re_tupL {t : TA} {m : M (List α)} (h : RAs K T t ρ m) : RE K T (tTup t) ρ true (bindW m fun xs => reqW (xs.length ≤ sizeLine) (retW xs)) := fun Bs po φ σ H n st P p Q q =>
  h Bs po φ σ H n st _ p _ fun a n1 vs H1 pa a1 i1 => by
    have hl := i1.len
    rw [List.length_map] at hl
    refine ⟨by rw [hl]; exact pa.1, fun t nt => ?_⟩
    have s := same_new (Same.refl H1) nt (o := .tup vs)
    exact q _ n1 _ _ [] pa.2 (a1.trans (Af.same s)) (.tup upd_same (i1.same s)) Fp.nil
/-- two things of which each is new -/
theorem fp_two {H H1 : Hp} {po : Option Addr} {n n1 : Nat} {f1 f2 : List Addr} {v : V} {d : PyData} (a1 : Af K T po H n H1 n1) (i1 : Im K H1 v d f1) (g1 : Fp H po true f1) (g2 : Fp H1 po true f2) : Fp H po true (f1 ++ f2) := by
  have g2' := Fp.back a1.fr g2
  refine ⟨fun b hb => (List.mem_append.mp hb).elim (g1.1 b) (g2.1 b), fun _ => ⟨nodup_app (g1.2 rfl).1 (g2.2 rfl).1 fun x hx hy => ?_, fun b hb => (List.mem_append.mp hb).elim ((g1.2 rfl).2 b) ((g2'.2 rfl).2 b)⟩⟩
  obtain ⟨l, hl, hm⟩ := Im.mtb _ _ _ i1 x hx
  obtain ⟨ps, z⟩ := (g2.2 rfl).2 x hy _ hl
  exact hm.tbl ps z
theorem re_pair {ta tb : TE} {ma : M α} {mb : M β} (ha : RE K T ta ρ true ma) (hb : RE K T tb ρ true mb) : RE K T (tTup (tCons ta (tCons tb tNil))) ρ true (b2W ma mb fun a b => retW (a, b)) := fun Bs po φ σ H n st P p Q q =>
  ha Bs po φ σ H n st _ p _ fun a n1 v H1 fp pa a1 i1 g1 => hb Bs po φ σ H1 n1 (st.af a1) _ pa _ fun b n2 w H2 fq pb a2 i2 g2 => by
    refine ⟨by show 2 ≤ sizeLine; decide, fun t nt => ?_⟩
    have s := same_new (Same.refl H2) nt (o := .tup [v, w])
    have i1' := (i1.af g1.1 a2.fr).same s
    exact q _ n2 _ _ (fp ++ fq) pb ((a1.trans a2).trans (Af.same s)) (.tup upd_same (.cons i1' (.cons (i2.same s) .nil (List.append_nil _).symm) rfl)) (fp_two a1 i1 g1 g2)
/-! tests -/
theorem rt_val {t : TE} {m : M Bool} {f : Bool} (h : RE K T t ρ f m) : RT K T (tB t) ρ m := fun Bs po φ σ H n st P p Q q => h Bs po φ σ H n st _ p _ fun a n1 v H1 fp pa a1 i1 g1 => by
  cases i1
  exact ⟨_, rfl, q _ n1 H1 pa a1⟩
theorem rt_test {t : TE} {m : M Bool} {f : Bool} (h : RE K T t ρ f m) : RT K T (tTest t) ρ m := fun Bs po φ σ H n st P p Q q => h Bs po φ σ H n st _ p _ fun a n1 v H1 fp pa a1 i1 g1 => by
  cases i1
  exact ⟨_, rfl, q _ n1 H1 pa a1⟩
def orW (a b : M Bool) : M Bool := bindW a fun x => if x = true then retW true else b
theorem rt_or {t u : TT} {a b : M Bool} (ha : RT K T t ρ a) (hb : RT K T u ρ b) : RT K T (tOr t u) ρ (orW a b) := fun Bs po φ σ H n st P p Q q => ha Bs po φ σ H n st _ p _ fun x n1 H1 pa a1 => by
  cases x with
  | false => exact (if_neg (by decide)).mpr (hb Bs po φ σ H1 n1 (st.af a1) _ pa _ fun y n2 H2 pb a2 => q y n2 H2 pb (a1.trans a2))
  | true => exact (if_pos rfl).mpr (q true n1 H1 pa a1)
theorem rt_not {t : TT} {a : M Bool} (ha : RT K T t ρ a) : RT K T (tNot t) ρ (mapW (fun b => !b) a) := fun Bs po φ σ H n st P p Q q => ha Bs po φ σ H n st _ p _ fun x n1 H1 pa a1 => q _ n1 H1 pa a1
/-! truths as values -/
end
end Bf
namespace Bf
open PySem PySem.Spec PyProof.Rows L2 LamX NdefX
/-! ### slots forgotten -/
def wipeR (ρ : List Sl) : List Nat → List Sl
  | [] => ρ
  | v :: vs => (wipeR ρ vs).set v .any
theorem wipeR_len (ρ : List Sl) : ∀ vs, (wipeR ρ vs).length = ρ.length
  | [] => rfl
  | v :: vs => by unfold wipeR; rw [List.length_set, wipeR_len ρ vs]
theorem wipeR_get {ρ : List Sl} {i : Nat} {s : Sl} : ∀ {vs : List Nat}, (wipeR ρ vs)[i]? = some s → s = .any ∨ (ρ[i]? = some s ∧ i ∉ vs)
  | [], h => .inr ⟨h, List.not_mem_nil⟩
  | v :: vs, h => by
    unfold wipeR at h
    rw [List.getElem?_set] at h
    by_cases e : v = i
    · rw [if_pos e] at h
      split at h
      · exact .inl (Option.some.inj h).symm
      · cases h
    · rw [if_neg e] at h
      rcases wipeR_get h with z | ⟨z1, z2⟩
      · exact .inl z
      · exact .inr ⟨z1, fun m => (List.mem_cons.mp m).elim (fun q => e q.symm) z2⟩
theorem wipe_set {σ : L2.St} {i : Nat} {x : Option V} : ∀ {vs : List Nat}, i ∈ vs → wipe (σ.set i x) vs = wipe σ vs
  | [], h => absurd h List.not_mem_nil
  | v :: vs, h => by
    show (wipe (σ.set i x) vs).set v none = (wipe σ vs).set v none
    by_cases hm : i ∈ vs
    · rw [wipe_set hm]
    · have e : i = v := (List.mem_cons.mp h).elim id fun q => absurd q hm
      subst e
      have : ∀ (ws : List Nat), i ∉ ws → wipe (σ.set i x) ws = (wipe σ ws).set i x := by
        intro ws
        induction ws with
        | nil => intro _; rfl
        | cons w ws ih =>
          intro hw
          have h1 : w ≠ i := fun e => hw (by rw [e]; exact List.mem_cons_self)
          show (wipe (σ.set i x) ws).set w none = ((wipe σ ws).set w none).set i x
          rw [ih fun m => hw (List.mem_cons_of_mem _ m), List.set_comm _ _ (Ne.symm h1)]
      rw [this vs hm, List.set_set]
theorem wipe_wipe {σ : L2.St} (vs : List Nat) : wipe (wipe σ vs) vs = wipe σ vs := by
  have : ∀ ws us : List Nat, (∀ w ∈ ws, w ∈ us) → wipe (wipe σ ws) us = wipe σ us := by
    intro ws us
    induction ws with
    | nil => intro _; rfl
    | cons w ws ih =>
      intro h
      show wipe ((wipe σ ws).set w none) us = wipe σ us
      rw [wipe_set (h w List.mem_cons_self), ih fun x hx => h x (List.mem_cons_of_mem _ hx)]
  exact this vs vs fun w h => h
section
variable {K : PySem.W.Frag} {T : List (Addr × Str)} {Bs : Addr → HO → Prop} {po : Option Addr} {ρ : List Sl} {φ : Nat → List Addr} {σ : L2.St} {H H' : Hp} {n n' : Nat}
theorem ST.wipe (h : ST K T Bs po ρ φ σ H n) (vs : List Nat) : ST K T Bs po (wipeR ρ vs) φ (L2.wipe σ vs) H n where
  tabs := h.tabs
  base := h.base
  pot := h.pot
  len := by rw [wipe_length, wipeR_len, h.len]
  sl := fun i s e => by
    rcases wipeR_get e with rfl | ⟨e, hi⟩
    · trivial
    · rw [wipe_out hi]
      exact h.sl i s e
  dis := fun i j d e hij ei ej => by
    rcases wipeR_get ei with z | ⟨ei, _⟩
    · cases z
    · rcases wipeR_get ej with z | ⟨ej, _⟩
      · cases z
      · exact h.dis i j d e hij ei ej
/-- set to something that no other slot holds -/
theorem ST.put (h : ST K T Bs po ρ φ σ H n) {i : Nat} (hi : i < ρ.length) {v : V} {d : PyData} {fp : List Addr} (hv : Im K H v d fp) (hn : fp.Nodup) (hp : ∀ b ∈ fp, po ≠ some b ∧ (∀ o, ¬ Bs b o) ∧ ∀ j e, j ≠ i → ρ[j]? = some (.own e) → b ∉ φ j) :
    ST K T Bs po (ρ.set i (.own d)) (fun j => if j = i then fp else φ j) (σ.set i (some v)) H n := by
  refine ⟨h.tabs, h.base, h.pot, by rw [List.length_set, List.length_set, h.len], fun j s e => ?_, fun j k d1 e1 hjk ej ek => ?_⟩
  · rw [List.getElem?_set] at e ⊢
    by_cases hij : i = j
    · subst hij
      rw [if_pos rfl, if_pos hi] at e
      obtain rfl : Sl.own d = s := Option.some.inj e
      rw [if_pos rfl, if_pos (by rw [h.len]; exact hi)]
      show SlOk K Bs po H _ _ (if i = i then fp else φ i)
      rw [if_pos rfl]
      exact ⟨v, rfl, hv, hn, fun b hb => ⟨(hp b hb).1, (hp b hb).2.1⟩⟩
    · rw [if_neg hij] at e ⊢
      show SlOk K Bs po H _ _ (if j = i then fp else φ j)
      rw [if_neg (Ne.symm hij)]
      exact h.sl j s e
  · show ∀ b ∈ (if j = i then fp else φ j), b ∉ (if k = i then fp else φ k)
    rw [List.getElem?_set] at ej ek
    by_cases hji : i = j
    · subst hji
      rw [if_pos rfl]
      rw [if_neg hjk] at ek
      rw [if_neg (Ne.symm hjk)]
      exact fun b hb => (hp b hb).2.2 k e1 (Ne.symm hjk) ek
    · rw [if_neg hji] at ej
      rw [if_neg (Ne.symm hji)]
      by_cases hki : i = k
      · subst hki
        rw [if_pos rfl]
        exact fun b hb z => (hp b z).2.2 j d1 (Ne.symm hji) ej hb
      · rw [if_neg hki] at ek
        rw [if_neg (Ne.symm hki)]
        exact h.dis j k d1 e1 hjk ej ek
theorem ST.put0 (h : ST K T Bs po ρ φ σ H n) {i : Nat} (hi : i < ρ.length) {v : V} {d : PyData} (hv : Im K H v d []) : ST K T Bs po (ρ.set i (.own d)) (fun j => if j = i then [] else φ j) (σ.set i (some v)) H n :=
  h.put hi hv List.nodup_nil fun b hb => absurd hb List.not_mem_nil
theorem ST.fresh_new (h : ST K T Bs po ρ φ σ H n) {fp : List Addr} (f : Fp H po true fp) (i : Nat) : fp.Nodup ∧ ∀ b ∈ fp, po ≠ some b ∧ (∀ o, ¬ Bs b o) ∧ ∀ j e, j ≠ i → ρ[j]? = some (.own e) → b ∉ φ j :=
  ⟨(f.2 rfl).1, fun b hb => ⟨f.1 b hb, h.fresh_bs ((f.2 rfl).2 b hb), fun j e _ ej => h.fresh_own ((f.2 rfl).2 b hb) ej⟩⟩
end
section
variable {K : PySem.W.Frag} {T : List (Addr × Str)} {ρ : List Sl}
variable {α β γ δ : Type} [Enc α] [Enc β] [Enc γ] [Enc δ]
/-! ### targets -/
/-- D isn't in what the slots hold -/
def Out (D : Addr) (ρ : List Sl) (φ : Nat → List Addr) : Prop := ∀ i d, (ρ[i]? = some (.own d) ∨ ρ[i]? = some (.bor d)) → D ∉ φ i
theorem Out.put {D : Addr} {ρ : List Sl} {φ : Nat → List Addr} {i : Nat} {d : PyData} {fp : List Addr} (h : Out D ρ φ) (hf : D ∉ fp) : Out D (ρ.set i (.own d)) (fun j => if j = i then fp else φ j) := fun j e ej => by
  show D ∉ (if j = i then fp else φ j)
  by_cases hji : j = i
  · rw [if_pos hji]; exact hf
  · rw [if_neg hji]
    rw [List.getElem?_set, if_neg (Ne.symm hji)] at ej
    exact h j e ej
theorem Out.new {K : PySem.W.Frag} {T : List (Addr × Str)} {Bs : Addr → HO → Prop} {po : Option Addr} {ρ : List Sl} {φ : Nat → List Addr} {σ : L2.St} {H : Hp} {n : Nat} (st : ST K T Bs po ρ φ σ H n) {D : Addr} (nD : H D = none) : Out D ρ φ := fun i d e z => by
  rcases e with e | e
  · obtain ⟨v, h1, h2, h3⟩ := st.sl i _ e
    obtain ⟨o, ho, _⟩ := Im.mtb _ _ _ h2 D z
    rw [nD] at ho; cases ho
  · obtain ⟨v, h1, h2, h3⟩ := st.sl i _ e
    obtain ⟨o, ho, _⟩ := Im.mtb _ _ _ h2 D z
    rw [nD] at ho; cases ho
theorem Out.wipe {D : Addr} {ρ : List Sl} {φ : Nat → List Addr} (h : Out D ρ φ) (vs : List Nat) : Out D (wipeR ρ vs) φ := fun i d e => by
  rcases e with e | e
  · rcases wipeR_get e with z | ⟨z, _⟩
    · cases z
    · exact h i d (.inl z)
  · rcases wipeR_get e with z | ⟨z, _⟩
    · cases z
    · exact h i d (.inr z)
def RG (K : PySem.W.Frag) (T : List (Addr × Str)) (ts : List Nat) (g : TG) {α : Type} [Enc α] (a : α) (ρ ρ' : List Sl) : Prop := ∀ (Bs : Addr → HO → Prop) (po : Option Addr) (φ : Nat → List Addr) (σ : L2.St) (H : Hp) (n : Nat), ST K T Bs po ρ φ σ H n → ∀ v fp, Im K H v (enc a) fp → fp.Nodup →
  (∀ b ∈ fp, po ≠ some b ∧ (∀ o, ¬ Bs b o) ∧ ∀ j e, ρ[j]? = some (.own e) → b ∉ φ j) → ∀ Q : L2.St → Hp → Prop, (∀ σ' φ', ST K T Bs po ρ' φ' σ' H n → (∀ js : List Nat, (∀ t ∈ ts, t ∈ js) → wipe σ' js = wipe σ js) → (∀ D, Out D ρ φ → D ∉ fp → Out D ρ' φ') → Q σ' H) → g v σ H Q
theorem rg_name {i : Nat} {a : α} {ρ' : List Sl} (hi : i < ρ.length) (e : ρ.set i (.own (enc a)) = ρ') : RG K T [i] (gName i) a ρ ρ' := fun Bs po φ σ H n st v fp im nd hp Q q => by
  subst e
  exact q _ _ (st.put hi im nd fun b hb => ⟨(hp b hb).1, (hp b hb).2.1, fun j e _ ej => (hp b hb).2.2 j e ej⟩) (fun js h => wipe_set (h i List.mem_cons_self)) fun D o f => o.put f
/-- two targets -/
theorem rg_two {i j : Nat} {x : α × β} {ρ1 ρ' : List Sl} (hi : i < ρ.length) (hj : j < ρ.length) (hij : i ≠ j) (e : ρ.set i (.own (enc x.1)) = ρ1) (e2 : ρ1.set j (.own (enc x.2)) = ρ') : RG K T [i, j] (gTup K 2 (gCons (gName i) (gCons (gName j) gNil))) x ρ ρ' := fun Bs po φ σ H n st v fp im nd hp Q q => by
  cases im with
  | tup hT hA =>
    obtain ⟨v1, v2, f1, f2, rfl, h1, h2, rfl⟩ := ima2 hA
    obtain ⟨n1, n2, n3⟩ := List.nodup_append.mp nd
    have st1 := st.put hi h1 n1 fun b hb => ⟨(hp b (List.mem_append_left _ hb)).1, (hp b (List.mem_append_left _ hb)).2.1, fun j e _ ej => (hp b (List.mem_append_left _ hb)).2.2 j e ej⟩
    have st2 := st1.put (i := j) (by rw [List.length_set]; exact hj) h2 n2 fun b hb => ⟨(hp b (List.mem_append_right _ hb)).1, (hp b (List.mem_append_right _ hb)).2.1, fun k d hk ek => by
      show b ∉ (if k = i then f1 else φ k)
      by_cases hki : k = i
      · rw [if_pos hki]
        exact fun z => n3 b z b hb rfl
      · rw [if_neg hki]
        rw [List.getElem?_set, if_neg (Ne.symm hki)] at ek
        exact (hp b (List.mem_append_right _ hb)).2.2 k d ek⟩
    rw [e, e2] at st2
    refine ⟨_, _, rfl, hT.q, rfl, _, _, rfl, _, _, rfl, rfl, q _ _ st2 (fun js h => ?_) fun D o f => ?_⟩
    · rw [wipe_set (h j (List.mem_cons_of_mem _ List.mem_cons_self)), wipe_set (h i List.mem_cons_self)]
    · rw [← e2, ← e]
      exact (o.put fun z => f (List.mem_append_left _ z)).put fun z => f (List.mem_append_right _ z)
/-! ### what is gone through -/
structure ItOk (K : PySem.W.Frag) (J : It) (H1 : Hp) {α : Type} [Enc α] (xs : List α) (fi : List Addr) : Prop where
  ex : ∃ (G : Hp → Prop) (Y : Nat → Hp → V → Hp → Prop), Walk J xs.length G Y ∧ G H1 ∧ (∀ H H' : Hp, (∀ b ∈ fi, ∀ l, H b = some (.lst l) → H' b = some (.lst l)) → (∀ b l, TupX H b l → TupX H' b l) → (∀ b ∈ fi, ∃ l, H1 b = some (.lst l) ∧ H b = some (.lst l)) → G H → G H') ∧
    ∀ i H x H', i < xs.length → G H → Y i H x H' → ∃ a, xs[i]? = some a ∧ Same H H' ∧ Im K H' x (enc a) []
  lst : ∀ b ∈ fi, ∃ l, H1 b = some (.lst l)
def RI (K : PySem.W.Frag) (T : List (Addr × Str)) (wi : TI) (ρ : List Sl) {α : Type} [Enc α] (m : M (List α)) : Prop := ∀ (Bs : Addr → HO → Prop) (po : Option Addr) (φ : Nat → List Addr) (σ : L2.St) (H : Hp) (n : Nat), ST K T Bs po ρ φ σ H n → ∀ P : List α → Nat → Prop, m n P →
  ∀ R : It → Hp → Prop, (∀ (xs : List α) (n' : Nat) (J : It) (H1 : Hp) (fi : List Addr), P xs n' → Af K T po H n H1 n' → ItOk K J H1 xs fi → (∀ b ∈ fi, po ≠ some b) → (∀ b ∈ fi, (∃ o, Bs b o) ∨ Fsh H b) → R J H1) → wi σ H R
theorem ri_range {t : TE} {m : M Nat} {f : Bool} (h : RE K T t ρ f m) : RI K T (iRng1 (tCons t tNil)) ρ (bindW m fun k => reqW (k < 4611686018427387904) (retW (List.range k))) := fun Bs po φ σ H n st P p R q => h Bs po φ σ H n st _ p _ fun k n1 v H1 fp pa a1 i1 g1 => by
  cases i1
  refine ⟨(k : Int), rfl, by omega, by have := pa.1; omega, ?_⟩
  refine q _ n1 _ H1 [] pa.2 a1 ⟨⟨fun _ => True, YFn fun i => .int (0 + i), ?_, trivial, fun _ _ _ _ _ _ => trivial, fun i H x H' hi _ y => ?_⟩, fun b hb => absurd hb List.not_mem_nil⟩ (fun b hb => absurd hb List.not_mem_nil) fun b hb => absurd hb List.not_mem_nil
  · rw [List.length_range, Int.toNat_natCast]
    exact walk_range
  · obtain ⟨rfl, rfl⟩ := y
    rw [List.length_range] at hi
    refine ⟨i, List.getElem?_range hi, Same.refl _, ?_⟩
    show Im K _ (.int (0 + (i : Int))) (.int (i : Int)) []
    rw [Int.zero_add]
    exact .int _
theorem yat_im [Pu α] {xs : List α} {vs : List V} {fp : List Addr} {H : Hp} {i : Nat} {x : V} (hA : ImA K H vs (xs.map enc) fp) (hi : i < xs.length) (e : vs[i]? = some x) : ∃ a, xs[i]? = some a ∧ Im K H x (enc a) [] := by
  obtain ⟨v, fq, h1, h2, _⟩ := hA.get (i := i) (d := enc xs[i]) (by rw [List.getElem?_map, List.getElem?_eq_getElem hi]; rfl)
  have : v = x := Option.some.inj (h1.symm.trans e)
  subst this
  have := Pu.pu h2
  subst this
  exact ⟨_, List.getElem?_eq_getElem hi, h2⟩
/-- items that no list is in stand whatever else is done, as long as tuples stay -/
theorem ima_stay [Pu α] {H H' : Hp} {xs : List α} {vs : List V} {fp : List Addr} (hA : ImA K H vs (xs.map enc) fp) (ht : ∀ b l, TupX H b l → TupX H' b l) : ImA K H' vs (xs.map enc) fp := ImA.stab ht _ _ _ hA fun b hb => by
  rw [ima_pu hA] at hb
  exact absurd hb List.not_mem_nil
theorem pair_im {H H' : Hp} {Tp : Addr} {v w : V} {a : α} {b : β} (nT : H Tp = none) (h1 : Im K H v (enc a) []) (h2 : Im K H w (enc b) []) : Same H (upd H Tp (.tup [v, w])) ∧ Im K (upd H Tp (.tup [v, w])) (.ref Tp) (enc (a, b)) [] := by
  have s := same_new (Same.refl H) nT (o := .tup [v, w])
  exact ⟨s, .tup upd_same (.cons (h1.same s) (.cons (h2.same s) .nil rfl) rfl)⟩
def enW (xs : List α) : List (Nat × α) := (List.range xs.length).zip xs
theorem enW_get {xs : List α} {i : Nat} {a : α} (h : xs[i]? = some a) : (enW xs)[i]? = some (i, a) := by
  unfold enW
  rw [List.getElem?_zip_eq_some]
  exact ⟨List.getElem?_range (List.getElem?_eq_some_iff.mp h).1, h⟩
theorem enW_len {xs : List α} : (enW xs).length = xs.length := by
  unfold enW
  rw [List.length_zip, List.length_range, Nat.min_self]
theorem ri_enL [Pu α] {i : Nat} {xs : Lst α} (hi : ρ[i]? = some (.bor (enc xs))) : RI K T (iEnum K (tCons (tVar i) tNil)) ρ (retW (enW xs.l)) := fun Bs po φ σ H n st P p R q => by
  obtain ⟨v, h1, h2, h3⟩ := st.sl i _ hi
  obtain ⟨a, vs, fq, rfl, hT, hA, e⟩ := im_lst h2
  have hl := hA.len
  have := ima_pu hA
  subst this
  rw [List.length_map] at hl
  have ha : a ∈ φ i := by rw [e]; exact List.mem_cons_self
  refine ⟨_, h1, a, vs, rfl, .inl (.inl hT), q (enW xs.l) n _ H [a] p Af.refl ⟨⟨fun H => H a = some (.lst vs) ∧ ImA K H vs (xs.l.map enc) [], YPair (fun i => some (.int (i : Nat))) (fun i => vs[i]?), ?_, ⟨hT, hA⟩, fun H H' hl' ht _ g => ⟨hl' a List.mem_cons_self _ g.1, ima_stay g.2 ht⟩, fun i H x H' hi g y => ?_⟩, fun b hb => by rw [List.mem_singleton.mp hb]; exact ⟨_, hT⟩⟩ (fun b hb => by rw [List.mem_singleton.mp hb]; exact (h3 a ha).1) fun b hb => .inl (by rw [List.mem_singleton.mp hb]; exact (h3 a ha).2)⟩
  · rw [enW_len, ← hl]
    exact walk_enum.mono (fun H g => .inl (.inl g.1)) fun i H x H' _ _ y => y
  · obtain ⟨Tp, vx, vy, rfl, nT, rfl, ex, ey⟩ := y
    rw [enW_len] at hi
    obtain ⟨d, h3, h4⟩ := yat_im g.2 hi ey
    obtain rfl : V.int (i : Nat) = vx := Option.some.inj ex
    obtain ⟨s, im⟩ := pair_im (H' := H) (a := i) nT (.int _) h4
    exact ⟨(i, d), enW_get h3, s, im⟩
/-! ### comprehensions -/
def lcW0 {α β : Type} (mt : α → M Bool) (me : α → M β) : List α → List β → M (Lst β)
  | [], acc => retW ⟨acc⟩
  | x :: xs, acc => bindW (mt x) fun b => if b = true then bindW (me x) fun y => lcW0 mt me xs (acc ++ [y]) else lcW0 mt me xs acc
theorem lcW_ex {α β : Type} (mt : α → M Bool) (me : α → M β) : ∃ g : List α → List β → M (Lst β), (∀ acc, g [] acc = retW ⟨acc⟩) ∧ ∀ x xs acc, g (x :: xs) acc = bindW (mt x) fun b => if b = true then bindW (me x) fun y => g xs (acc ++ [y]) else g xs acc := ⟨lcW0 mt me, fun _ => rfl, fun _ _ _ => rfl⟩
/-- sealed: it isn't gone through of itself -/
noncomputable def lcW {α β : Type} (mt : α → M Bool) (me : α → M β) : List α → List β → M (Lst β) := Classical.choose (lcW_ex mt me)
theorem lcW_nil {α β : Type} {mt : α → M Bool} {me : α → M β} {acc : List β} : lcW mt me [] acc = retW ⟨acc⟩ := (Classical.choose_spec (lcW_ex mt me)).1 acc
theorem lcW_cons {α β : Type} {mt : α → M Bool} {me : α → M β} {x : α} {xs : List α} {acc : List β} : lcW mt me (x :: xs) acc = bindW (mt x) fun b => if b = true then bindW (me x) fun y => lcW mt me xs (acc ++ [y]) else lcW mt me xs acc := (Classical.choose_spec (lcW_ex mt me)).2 x xs acc
theorem re_lc [Pu β] {wi : TI} {g : TG} {tt : TT} {te : TE} {vs ts : List Nat} {mi : M (List α)} {mt : α → M Bool} {me : α → M β} {ρw : List Sl} {ρx : α → List Sl} {f : Bool} (hw : wipeR ρ vs = ρw) (hi : RI K T wi ρ mi) (hts : ∀ t ∈ ts, t ∈ vs) (hg : ∀ a, RG K T ts g a ρw (ρx a))
    (ht : ∀ a, RT K T tt (ρx a) (mt a)) (he : ∀ a, RE K T te (ρx a) f (me a)) : RE K T (tLc wi g tt te vs) ρ true (bindW mi fun xs => reqW (xs.length ≤ sizeLine) (lcW mt me xs [])) := fun Bs po φ σ H n st P p Q q =>
  hi Bs po φ σ H n st _ p _ fun xs n1 J H1 fi pa a1 ok hfp hfi D nD => by
    subst hw
    obtain ⟨⟨G, Y, w, g0, gs, gy⟩, hlst⟩ := ok
    have st1 := st.af a1
    have hDp : po ≠ some D := st1.fresh_pot fun o e => by rw [nD] at e; cases e
    have sD : Same H1 (upd H1 D (.lst [])) := same_new (Same.refl H1) nD
    have hfD : ∀ b ∈ fi, b ≠ D := fun b hb e => by
      obtain ⟨l, hl⟩ := hlst b hb
      rw [e, nD] at hl
      cases hl
    refine lc_it w (fun i H' => ∃ (n' : Nat) (acc : List β) (vs' : List V), Af K T po H1 n1 H' n' ∧ G H' ∧ H' D = some (.lst vs') ∧ ImA K H' vs' (acc.map enc) [] ∧ acc.length ≤ i ∧ lcW mt me (xs.drop i) acc n' P) ⟨n1, [], [], Af.same sD, gs H1 _ (fun b hb l e => sD b _ e) (fun b l e => sD _ _ e) (fun b hb => (by obtain ⟨l, hl⟩ := hlst b hb; exact ⟨l, hl, hl⟩)) g0, upd_same, .nil, Nat.le_refl _, by rw [List.drop_zero]; exact pa.2⟩ (fun i H' _ z => by obtain ⟨_, _, _, _, z, _⟩ := z; exact z) ?_ ?_
    · rintro i x HA HB hi' ⟨n', acc, vs', af, gA, eD, hA, hacc, pl⟩ hy
      obtain ⟨a, ha, sAB, imx⟩ := gy i HA x HB hi' gA hy
      have afB := af.trans (Af.same sAB)
      have stB := (st1.af afB).wipe vs
      have hdr : xs.drop i = a :: xs.drop (i + 1) := by
        rw [List.drop_eq_getElem_cons hi']
        congr 1
        exact Option.some.inj ((List.getElem?_eq_getElem hi').symm.trans ha)
      rw [hdr, lcW_cons] at pl
      have keepG : ∀ HC nC, Af K T po H1 n1 HC nC → G HA → (∀ b ∈ fi, ∀ l, HA b = some (.lst l) → HC b = some (.lst l)) → (∀ b l, TupX HA b l → TupX HC b l) → G HC := fun HC nC afC gA' h1 h2 => gs HA HC h1 h2 (fun b hb => by
        obtain ⟨l, hl⟩ := hlst b hb
        exact ⟨l, hl, af.fr.keep b _ (hfp b hb) hl fun ps z => nomatch z⟩) gA'
      refine hg a Bs po φ (L2.wipe σ vs) HB n' stB x [] imx List.nodup_nil (fun b hb => absurd hb List.not_mem_nil) _ fun σ' φ' stx hwp _ => ⟨(hwp vs hts).trans (wipe_wipe vs), ?_⟩
      refine ht a Bs po φ' σ' HB n' stx _ pl _ fun b n2 HC pb a2 => ?_
      have eDB := sAB _ _ eD
      have eDC := a2.fr.keep D _ hDp eDB fun ps z => nomatch z
      cases b with
      | false =>
        refine (if_neg (by decide)).mpr ⟨n2, acc, vs', afB.trans a2, ?_, eDC, (hA.same sAB).af (fun b hb => absurd hb List.not_mem_nil) a2.fr, by omega, ?_⟩
        · exact keepG HC n2 (afB.trans a2) gA (fun b hb l e => a2.fr.keep b _ (hfp b hb) (sAB _ _ e) fun ps z => nomatch z) fun b l e => a2.fr.tup b l (sAB _ _ e)
        · exact pb
      | true =>
        refine (if_pos rfl).mpr (he a Bs po φ' σ' HC n2 (stx.af a2) _ pb _ fun y n3 u HE fp' pe a3 iy gy' => ?_)
        have eDE := a3.fr.keep D _ hDp eDC fun ps z => nomatch z
        have z := Pu.pu iy
        subst z
        have hAE := ((hA.same sAB).af (po := po) (fun b hb => absurd hb List.not_mem_nil) a2.fr).af (po := po) (fun b hb => absurd hb List.not_mem_nil) a3.fr
        have hl := hA.len
        rw [List.length_map] at hl
        have afE := (afB.trans a2).trans a3
        have keepU : ∀ b o, b ≠ D → HE b = some o → (upd HE D (.lst (vs' ++ [u]))) b = some o := fun b o nb e => by rw [upd_ne nb]; exact e
        have tupU : ∀ b l, TupX HE b l → TupX (upd HE D (.lst (vs' ++ [u]))) b l := fun b l e => keepU _ _ (fun z => by unfold TupX at e; rw [z, eDE] at e; cases l <;> cases e) e
        have afU : Af K T po H1 n1 (upd HE D (.lst (vs' ++ [u]))) n3 := by
          refine ⟨⟨fun b o hb e t => ?_, fun b l e => tupU b l (afE.fr.tup b l e)⟩, fun t => tabs_upd (afE.tabs t) eDE, fun p hp pp => ?_⟩
          · exact keepU b o (fun z => by rw [z, nD] at e; cases e) (afE.fr.keep b o hb e t)
          · obtain ⟨x1, x2, x3, e, h⟩ := afE.pot p hp pp
            exact ⟨x1, x2, x3, keepU _ _ (fun z => hDp (by rw [← z]; exact hp)) e, h⟩
        refine ⟨vs', eDE, ?_, n3, acc ++ [y], vs' ++ [u], afU, ?_, upd_same, ?_, by rw [List.length_append, List.length_singleton]; omega, pe⟩
        · rw [hl]
          have := pa.1
          omega
        · exact keepG _ n3 afU gA (fun b hb l e => keepU b _ (hfD b hb) (a3.fr.keep b _ (hfp b hb) (a2.fr.keep b _ (hfp b hb) (sAB _ _ e) fun ps z => nomatch z) fun ps z => nomatch z)) fun b l e => tupU b l (a3.fr.tup b l (a2.fr.tup b l (sAB _ _ e)))
        · rw [List.map_append]
          exact ImA.stab tupU _ _ _ (hAE.app (.cons iy .nil rfl)) fun b hb => absurd hb List.not_mem_nil
    · rintro HA ⟨n', acc, vs', af, gA, eD, hA, hacc, pl⟩
      rw [List.drop_length, lcW_nil] at pl
      have st2 := st1.af af
      exact q ⟨acc⟩ n' _ HA [D] pl (a1.trans af) (.lst eD hA rfl) (Fp.back a1.fr (fp_new st1 ⟨List.nodup_cons.mpr ⟨List.not_mem_nil, List.nodup_nil⟩, fun x hx => by rw [List.mem_singleton.mp hx]; exact nD⟩))
end
end Bf
namespace Bf
open PySem PySem.Spec PyProof.Rows L2 LamX NdefX
inductive Ctl (R B S : Type) where
  | nxt (s : S)
  | ret (r : R)
  | brk (b : B)
def Tpk (K : PySem.W.Frag) (H H' : Hp) : Prop := ∀ b xs, TupX H b xs → TupX H' b xs
def Sub (Bs Bs' : Addr → HO → Prop) : Prop := ∀ b o, Bs b o → Bs' b o
section
variable {K : PySem.W.Frag} {T : List (Addr × Str)} {Bs : Addr → HO → Prop} {po : Option Addr} {ρ : List Sl} {φ : Nat → List Addr} {σ : L2.St} {H H' : Hp} {n n' : Nat}
theorem tabs_updM {T : List (Addr × Str)} {H : Hp} {D : Addr} {u u' : HO} (t : Tabs T H) (h : H D = some u) (hm : Mtb u) : Tabs T (upd H D u') := fun y hy => by
  obtain ⟨ps, t1, t2, t3⟩ := t y hy
  refine ⟨ps, ?_, t2, fun pos cv hc => ?_⟩
  · rw [upd_ne (fun e => by rw [e, h] at t1; cases t1; exact hm)]
    exact t1
  · obtain ⟨c, e1, e2⟩ := t3 pos cv hc
    refine ⟨c, e1, ?_⟩
    rw [upd_ne (fun e => by rw [e, h] at e2; unfold CodeO at e2; cases e2; exact hm)]
    exact e2
theorem ST.writeM (h : ST K T Bs po ρ φ σ H n) {i : Nat} {a : Addr} {d d' : PyData} {u u' : HO} (hi : ρ[i]? = some (.own d)) (hv : σ[i]? = some (some (.ref a))) (ha : a ∈ φ i) (e : H a = some u) (hm : Mtb u) (hn : Im K (upd H a u') (.ref a) d' (φ i)) :
    ST K T Bs po (ρ.set i (.own d')) φ σ (upd H a u') n ∧ Tpk K H (upd H a u') := by
  obtain ⟨v, h1, h2, h3, h4⟩ := h.sl i _ hi
  have hil := (List.getElem?_eq_some_iff.mp hi).1
  have tup : ∀ b xs, TupX H b xs → TupX (upd H a u') b xs := fun b xs z => by
    unfold TupX at z ⊢
    rw [upd_ne (fun q => by rw [q, e] at z; cases xs <;> (cases z; exact hm))]
    exact z
  refine ⟨⟨tabs_updM h.tabs e hm, fun b o z => ?_, fun p hp => ?_, by rw [List.length_set]; exact h.len, fun j s ej => ?_, fun j k d1 e1 hjk ej ek => ?_⟩, tup⟩
  · obtain ⟨z1, z2, z3⟩ := h.base b o z
    exact ⟨by rw [upd_ne (fun q => (h4 a ha).2 o (by rw [← q]; exact z))]; exact z1, z2, z3⟩
  · obtain ⟨x, y, z, hH, hh⟩ := h.pot p hp
    exact ⟨x, y, z, by rw [upd_ne (fun q => (h4 a ha).1 (by rw [← q]; exact hp))]; exact hH, hh⟩
  · rw [List.getElem?_set] at ej
    by_cases hij : i = j
    · subst hij
      rw [if_pos rfl, if_pos hil] at ej
      obtain rfl : Sl.own d' = s := Option.some.inj ej
      exact ⟨_, hv, hn, h3, h4⟩
    · rw [if_neg hij] at ej
      have z := h.sl j s ej
      cases s with
      | any => trivial
      | pot => exact z
      | scr ns => exact z
      | bor d1 =>
        obtain ⟨v', z1, z2, z3⟩ := z
        refine ⟨v', z1, Im.stab tup _ _ _ z2 fun b hb xs eb _ => ?_, z3⟩
        rw [upd_ne (fun q => by obtain ⟨o, ho⟩ := (z3 b hb).2; exact (h4 a ha).2 o (by rw [← q]; exact ho))]
        exact eb
      | own d1 =>
        obtain ⟨v', z1, z2, z3, z4⟩ := z
        refine ⟨v', z1, Im.stab tup _ _ _ z2 fun b hb xs eb _ => ?_, z3, z4⟩
        rw [upd_ne (fun q => h.dis i j d d1 hij hi ej a ha (by rw [← q]; exact hb))]
        exact eb
      | borA v' fq d1 =>
        refine ⟨z.1, Im.stab tup _ _ _ z.2.1 fun b hb xs eb _ => ?_, z.2.2⟩
        rw [upd_ne (fun q => by obtain ⟨o, ho⟩ := (z.2.2 b hb).2; exact (h4 a ha).2 o (by rw [← q]; exact ho))]
        exact eb
      | lkd d1 =>
        obtain ⟨b, od, u1, z1, z2, z3, z4⟩ := z
        refine ⟨b, od, u1, z1, z2, by rw [upd_ne (fun q => by rw [q, e] at z3; cases z3; exact hm)]; exact z3, ?_⟩
        rcases z4 with ⟨kvs, ps, y1, y2, y3, y4⟩ | ⟨kvs, ps, y1, y2, y3, y4⟩
        · exact .inl ⟨kvs, ps, y1, y2, y3, ImA.stab tup _ _ _ y4 fun b hb => absurd hb List.not_mem_nil⟩
        · exact .inr ⟨kvs, ps, y1, y2, y3, ImA.stab tup _ _ _ y4 fun b hb => absurd hb List.not_mem_nil⟩
  · have back : ∀ (j : Nat) (d1 : PyData), (ρ.set i (.own d'))[j]? = some (.own d1) → ∃ d2, ρ[j]? = some (.own d2) := fun j d1 ej => by
      rw [List.getElem?_set] at ej
      by_cases hij : i = j
      · subst hij; exact ⟨d, hi⟩
      · rw [if_neg hij] at ej; exact ⟨d1, ej⟩
    obtain ⟨d2, ej⟩ := back j d1 ej
    obtain ⟨d3, ek⟩ := back k e1 ek
    exact h.dis j k d2 d3 hjk ej ek
theorem ST.write (h : ST K T Bs po ρ φ σ H n) {i : Nat} {a : Addr} {d d' : PyData} {vs vs' : List V} (hi : ρ[i]? = some (.own d)) (hv : σ[i]? = some (some (.ref a))) (ha : a ∈ φ i) (e : H a = some (.lst vs)) (hn : Im K (upd H a (.lst vs')) (.ref a) d' (φ i)) :
    ST K T Bs po (ρ.set i (.own d')) φ σ (upd H a (.lst vs')) n ∧ Tpk K H (upd H a (.lst vs')) := h.writeM hi hv ha e trivial hn
end
section
variable {K : PySem.W.Frag} {T : List (Addr × Str)} {ρ : List Sl}
variable {α β γ δ : Type} [Enc α] [Enc β] [Enc γ] [Enc δ]
variable {R B S S2 : Type} [Enc R] {C : Option Addr → Prop}
/-! ## statements -/
def RB (K : PySem.W.Frag) (T : List (Addr × Str)) (C : Option Addr → Prop) (t : TS) (ρ : List Sl) {R B S : Type} [Enc R] (m : M (Ctl R B S)) (ρn : S → List Sl) (ρb : B → List Sl) : Prop :=
  ∀ (Bs : Addr → HO → Prop) (po : Option Addr), C po → ∀ (σ : L2.St) (H : Hp) (n : Nat), STe K T Bs po ρ σ H n → ∀ P : Ctl R B S → Nat → Prop, m n P → ∀ D : Ends,
    (∀ s n' σ' H' Bs', P (.nxt s) n' → Sub Bs Bs' → STe K T Bs' po (ρn s) σ' H' n' → Tpk K H H' → D.nx σ' H') →
    (∀ b n' σ' H' Bs', P (.brk b) n' → Sub Bs Bs' → STe K T Bs' po (ρb b) σ' H' n' → Tpk K H H' → D.bk σ' H') →
    (∀ r n' v H' fp, P (.ret r) n' → Tabs T H' → (∀ b o, Bs b o → H' b = some o) → (∀ a, po = some a → Pot H' a n') → Tpk K H H' → Im K H' v (enc r) fp → fp.Nodup → (∀ b ∈ fp, po ≠ some b ∧ ∀ o, ¬ Bs b o) → D.rt v H') → t D σ H
def Tpk.refl {H : Hp} : Tpk K H H := fun _ _ h => h
theorem Tpk.trans {H H1 H2 : Hp} (a : Tpk K H H1) (b : Tpk K H1 H2) : Tpk K H H2 := fun x xs h => b x xs (a x xs h)
variable {ρn : S → List Sl} {ρb : B → List Sl}
/-- what is behind a step -/
theorem RB.go {t : TS} {m : M (Ctl R B S)} (h : RB K T C t ρ m ρn ρb) {Bs Bs1 : Addr → HO → Prop} {po : Option Addr} (hC : C po) {σ : L2.St} {H0 H : Hp} {n : Nat} (st : STe K T Bs1 po ρ σ H n) {P : Ctl R B S → Nat → Prop} (p : m n P) {D : Ends} (sub : Sub Bs Bs1) (tp : Tpk K H0 H)
    (h1 : ∀ s n' σ' H' Bs', P (.nxt s) n' → Sub Bs Bs' → STe K T Bs' po (ρn s) σ' H' n' → Tpk K H0 H' → D.nx σ' H') (h2 : ∀ b n' σ' H' Bs', P (.brk b) n' → Sub Bs Bs' → STe K T Bs' po (ρb b) σ' H' n' → Tpk K H0 H' → D.bk σ' H')
    (h3 : ∀ r n' v H' fp, P (.ret r) n' → Tabs T H' → (∀ b o, Bs b o → H' b = some o) → (∀ a, po = some a → Pot H' a n') → Tpk K H0 H' → Im K H' v (enc r) fp → fp.Nodup → (∀ b ∈ fp, po ≠ some b ∧ ∀ o, ¬ Bs b o) → D.rt v H') : t D σ H :=
  h Bs1 po hC σ H n st P p D (fun s n' σ' H' Bs' p' sb st' tp' => h1 s n' σ' H' Bs' p' (fun b o z => sb b o (sub b o z)) st' (tp.trans tp')) (fun s n' σ' H' Bs' p' sb st' tp' => h2 s n' σ' H' Bs' p' (fun b o z => sb b o (sub b o z)) st' (tp.trans tp'))
    fun r n' v H' fp p' tb bs pt tp' im nd hf => h3 r n' v H' fp p' tb (fun b o z => bs b o (sub b o z)) pt (tp.trans tp') im nd fun b hb => ⟨(hf b hb).1, fun o z => (hf b hb).2 o (sub b o z)⟩
theorem rb_asg {te : TE} {g : TG} {tu : TS} {ts : List Nat} {m : M α} {k : α → M (Ctl R B S)} {ρ2 : α → List Sl} (he : RE K T te ρ true m) (hg : ∀ a, RG K T ts g a ρ (ρ2 a)) (hu : ∀ a, RB K T C tu (ρ2 a) (k a) ρn ρb) : RB K T C (tSeq (tAsg te g) tu) ρ (bindW m k) ρn ρb :=
  fun Bs po hC σ H n ⟨φ, st⟩ P p D h1 h2 h3 => he Bs po φ σ H n st _ p _ fun a n1 v H1 fp pa a1 im f => by
    have st1 := st.af a1
    refine hg a Bs po φ σ H1 n1 st1 v fp im (f.2 rfl).1 (fun b hb => ⟨f.1 b hb, st.fresh_bs ((f.2 rfl).2 b hb), fun j e ej => st.fresh_own ((f.2 rfl).2 b hb) ej⟩) _ fun σ' φ' st2 _ _ => ?_
    exact (hu a).go (Bs := Bs) hC ⟨φ', st2⟩ pa (fun b o z => z) a1.fr.tup h1 h2 h3
/-- a, b = x, y -/
theorem rb_par {t1 t2 : TE} {tu : TS} {i j : Nat} {m1 : M α} {m2 : M β} {k : α → β → M (Ctl R B S)} {ρ2 : α → β → List Sl} (ha : RE K T t1 ρ true m1) (hb : RE K T t2 ρ true m2) (hi : i < ρ.length) (hj : j < ρ.length) (hij : i ≠ j) (e : ∀ a b, (ρ.set i (.own (enc a))).set j (.own (enc b)) = ρ2 a b)
    (hu : ∀ a b, RB K T C tu (ρ2 a b) (k a b) ρn ρb) : RB K T C (tSeq (tPar i j (tCons t1 (tCons t2 tNil))) tu) ρ (b2W m1 m2 k) ρn ρb :=
  fun Bs po hC σ H n ⟨φ, st⟩ P p D h1 h2 h3 => ha Bs po φ σ H n st _ p _ fun a n1 v H1 fp pa a1 i1 g1 => hb Bs po φ σ H1 n1 (st.af a1) _ pa _ fun b n2 w H2 fq pb a2 i2 g2 => by
    have a12 := a1.trans a2
    have st2 := st.af a12
    have i1' := i1.af g1.1 a2.fr
    have g2' := Fp.back a1.fr g2
    have st3 := st2.put hi i1' (g1.2 rfl).1 (st.fresh_new g1 i).2
    have st4 := st3.put (i := j) (by rw [List.length_set]; exact hj) i2 (g2.2 rfl).1 fun c hc => by
      obtain ⟨z1, z2, z3⟩ := (st.fresh_new g2' j).2 c hc
      refine ⟨z1, z2, fun l d hl el => ?_⟩
      show c ∉ (if l = i then fp else φ l)
      by_cases hli : l = i
      · rw [if_pos hli]
        intro z
        obtain ⟨x, hx, hm⟩ := Im.mtb _ _ _ i1 c z
        obtain ⟨ps, q⟩ := (g2.2 rfl).2 c hc _ hx
        exact hm.tbl ps q
      · rw [if_neg hli]
        rw [List.getElem?_set, if_neg (Ne.symm hli)] at el
        exact z3 l d hl el
    rw [e a b] at st4
    exact ⟨v, w, rfl, (hu a b).go (Bs := Bs) hC ⟨_, st4⟩ pb (fun b o z => z) a12.fr.tup h1 h2 h3⟩
/-- xs.append(e) -/
theorem rb_append [Pu α] {te : TE} {tu : TS} {i : Nat} {xs : Lst α} {m : M α} {k : α → M (Ctl R B S)} {ρ2 : α → List Sl} {f : Bool} (hi : ρ[i]? = some (.own (enc xs))) (he : RE K T te ρ f m) (e : ∀ a, ρ.set i (.own (enc (⟨xs.l ++ [a]⟩ : Lst α))) = ρ2 a) (hu : ∀ a, RB K T C tu (ρ2 a) (k a) ρn ρb) :
    RB K T C (tSeq (tDrop (tBM K "list" rAppend (tVar i) (tCons te tNil))) tu) ρ (bindW m fun a => reqW (xs.l.length < sizeLine) (k a)) ρn ρb := fun Bs po hC σ H n ⟨φ, st⟩ P p D h1 h2 h3 => by
  obtain ⟨v, e1, e2, e3, e4⟩ := st.sl i _ hi
  obtain ⟨a, vs, fq, rfl, hT, hA, eφ⟩ := im_lst e2
  refine ⟨_, e1, .inl ⟨rfl, vs, .inl (.inl hT)⟩, he Bs po φ σ H n st _ p _ fun x n1 w H1 fp pa a1 im g => ?_⟩
  have z := Pu.pu im
  subst z
  have z := ima_pu hA
  subst z
  have st1 := st.af a1
  have ha : a ∈ φ i := by rw [eφ]; exact List.mem_cons_self
  have hT1 := a1.fr.keep a _ (e4 a ha).1 hT fun ps z => nomatch z
  have hA1 := hA.af (po := po) (fun b hb => absurd hb List.not_mem_nil) a1.fr
  have hl := hA.len
  rw [List.length_map] at hl
  refine ⟨a, vs, w, rfl, rfl, hT1, by rw [hl]; exact pa.1, ?_⟩
  have tup : ∀ b xs, TupX H1 b xs → TupX (upd H1 a (.lst (vs ++ [w]))) b xs := fun b xs z => by
    unfold TupX at z ⊢
    rw [upd_ne (fun q => by rw [q, hT1] at z; cases xs <;> cases z)]
    exact z
  obtain ⟨st2, tp⟩ := st1.write (d' := enc (⟨xs.l ++ [x]⟩ : Lst α)) (vs' := vs ++ [w]) hi e1 ha hT1 (by
    rw [eφ]
    refine .lst upd_same ?_ rfl
    show ImA K _ (vs ++ [w]) ((xs.l ++ [x]).map enc) []
    rw [List.map_append]
    exact ImA.stab tup _ _ _ (hA1.app (.cons im .nil rfl)) fun b hb => absurd hb List.not_mem_nil)
  rw [e x] at st2
  exact (hu x).go (Bs := Bs) hC ⟨φ, st2⟩ pa.2 (fun b o z => z) (Tpk.trans a1.fr.tup tp) h1 h2 h3
/-- return e -/
theorem rb_ret {te : TE} {tu : TS} {m : M R} (he : RE K T te ρ true m) : RB K T C (tSeq (tRet te) tu) ρ (bindW m fun r => retW (.ret r)) ρn ρb := fun Bs po hC σ H n ⟨φ, st⟩ P p D h1 h2 h3 =>
  he Bs po φ σ H n st _ p _ fun a n1 v H1 fp pa a1 im g => by
    have st1 := st.af a1
    exact h3 a n1 v H1 fp pa st1.tabs (fun b o z => (st1.base b o z).1) st1.pot a1.fr.tup im (g.2 rfl).1 fun b hb => ⟨g.1 b hb, st.fresh_bs ((g.2 rfl).2 b hb)⟩
theorem rb_end {s : S} (h : RhoLe (ρn s) ρ) : RB K T C tNext ρ (retW (.nxt s) : M (Ctl R B S)) ρn ρb := fun Bs po hC σ H n ⟨φ, st⟩ P p D h1 h2 h3 => h1 s n σ H Bs p (fun _ _ z => z) ⟨φ, st.le h⟩ Tpk.refl
theorem rb_freeze {t : TS} {i : Nat} {d : PyData} {m : M (Ctl R B S)} {ρ2 : List Sl} (hi : ρ[i]? = some (.own d)) (e : ρ.set i (.bor d) = ρ2) (h : RB K T C t ρ2 m ρn ρb) : RB K T C t ρ m ρn ρb := fun Bs po hC σ H n ⟨φ, st⟩ P p D h1 h2 h3 => by
  have st2 := st.freeze hi
  rw [e] at st2
  exact h.go (Bs := Bs) hC ⟨φ, st2⟩ p (fun b o z => .inl z) Tpk.refl h1 h2 h3
def seqW (m : M (Ctl R B S)) (k : S → M (Ctl R B S2)) : M (Ctl R B S2) := fun n P => m n fun c n' => match c with
  | .nxt s => k s n' P
  | .ret r => P (.ret r) n'
  | .brk b => P (.brk b) n'
theorem rb_if {c : TT} {tA tB tu : TS} {mc : M Bool} {mA mB : M (Ctl R B S2)} {ρ1 : S2 → List Sl} {k : S2 → M (Ctl R B S)} (hc : RT K T c ρ mc) (hA : RB K T C tA ρ mA ρ1 ρb) (hB : RB K T C tB ρ mB ρ1 ρb) (hu : ∀ s, RB K T C tu (ρ1 s) (k s) ρn ρb) :
    RB K T C (tSeq (tIfS c tA tB) tu) ρ (bindW mc fun b => seqW (if b = true then mA else mB) k) ρn ρb := fun Bs po hC σ H n ⟨φ, st⟩ P p D h1 h2 h3 => hc Bs po φ σ H n st _ p _ fun b n1 H1 pa a1 => by
  have key : ∀ {t : TS} {m : M (Ctl R B S2)}, RB K T C t ρ m ρ1 ρb → (seqW m k) n1 P → t { D with nx := fun σ' H' => tu D σ' H' } σ H1 := fun {t m} ht pm =>
    ht.go (Bs := Bs) hC ⟨φ, st.af a1⟩ (P := fun c n' => match c with | .nxt s => k s n' P | .ret r => P (.ret r) n' | .brk b => P (.brk b) n') pm (fun _ _ z => z) a1.fr.tup
      (fun s n' σ' H' Bs' p' sb st' tp' => (hu s).go (Bs := Bs) hC st' p' sb tp' h1 h2 h3) h2 h3
  cases b with
  | true => exact (if_pos rfl).mpr (key hA pa)
  | false => exact (if_neg (by decide)).mpr (key hB pa)
def forW0 {α : Type} (f : α → S → M (Ctl R S S)) : List α → S → M (Ctl R B S)
  | [], s => retW (.nxt s)
  | x :: xs, s => fun n P => f x s n fun c n' => match c with
    | .nxt s' => forW0 f xs s' n' P
    | .ret r => P (.ret r) n'
    | .brk s' => P (.nxt s') n'
omit [Enc R] in
theorem forW_ex {α : Type} (f : α → S → M (Ctl R S S)) : ∃ g : List α → S → M (Ctl R B S), (∀ s, g [] s = retW (.nxt s)) ∧ ∀ x xs s, g (x :: xs) s = fun n P => f x s n fun c n' => match c with
    | .nxt s' => g xs s' n' P
    | .ret r => P (.ret r) n'
    | .brk s' => P (.nxt s') n' := ⟨forW0 f, fun _ => rfl, fun _ _ _ => rfl⟩
/-- sealed: it isn't gone through of itself -/
noncomputable def forW {α : Type} (f : α → S → M (Ctl R S S)) : List α → S → M (Ctl R B S) := Classical.choose (forW_ex f)
omit [Enc R] in
theorem forW_nil {α : Type} {f : α → S → M (Ctl R S S)} {s : S} : (forW f [] s : M (Ctl R B S)) = retW (.nxt s) := (Classical.choose_spec (forW_ex f)).1 s
omit [Enc R] in
theorem forW_cons {α : Type} {f : α → S → M (Ctl R S S)} {x : α} {xs : List α} {s : S} : (forW f (x :: xs) s : M (Ctl R B S)) = fun n P => f x s n fun c n' => match c with
    | .nxt s' => forW f xs s' n' P
    | .ret r => P (.ret r) n'
    | .brk s' => P (.nxt s') n' := (Classical.choose_spec (forW_ex f)).2 x xs s
theorem rb_for {wi : TI} {g : TG} {tb tu : TS} {ts : List Nat} {mi : M (List α)} {s0 : S2} {f : α → S2 → M (Ctl R S2 S2)} {k : S2 → M (Ctl R B S)} {ρl : S2 → List Sl} {ρx : α → S2 → List Sl} (hi : RI K T wi ρ mi) (h0 : RhoLe (ρl s0) ρ) (hg : ∀ a s, RG K T ts g a (ρl s) (ρx a s))
    (hb : ∀ a s, RB K T C tb (ρx a s) (f a s) ρl ρl) (hu : ∀ s, RB K T C tu (ρl s) (k s) ρn ρb) : RB K T C (tSeq (tFor wi g tb) tu) ρ (bindW mi fun xs => seqW (forW f xs s0) k) ρn ρb := fun Bs po hC σ H n ⟨φ, st⟩ P p D h1 h2 h3 =>
  hi Bs po φ σ H n st _ p _ fun xs n1 J H1 fi pa a1 ok hfp hfi => by
    obtain ⟨⟨G, Y, w, g0, gs, gy⟩, hlst⟩ := ok
    have st1 := (st.af a1).le h0
    -- the lists gone through stand, too
    have st2 : ST K T (fun b o => Bs b o ∨ (b ∈ fi ∧ H1 b = some o)) po (ρl s0) φ σ H1 n1 := by
      refine ⟨st1.tabs, fun b o z => ?_, st1.pot, st1.len, fun i s e => ?_, st1.dis⟩
      · rcases z with z | ⟨z, e⟩
        · exact st1.base b o z
        · obtain ⟨l, hl⟩ := hlst b z
          rw [e] at hl
          cases hl
          exact ⟨e, fun ps q => (by cases q), hfp b z⟩
      · have z := st1.sl i s e
        cases s with
        | any => trivial
        | pot => exact z
        | scr ns => obtain ⟨a, z1, z2⟩ := z; exact ⟨a, z1, z2.elim (fun ⟨o, q1, q2⟩ => .inl ⟨o, .inl q1, q2⟩) .inr⟩
        | lkd d => exact z
        | borA v' fq d => exact ⟨z.1, z.2.1, fun b hb => ⟨(z.2.2 b hb).1, let ⟨o, q⟩ := (z.2.2 b hb).2; ⟨o, .inl q⟩⟩⟩
        | bor d => obtain ⟨v, z1, z2, z3⟩ := z; exact ⟨v, z1, z2, fun b hb => ⟨(z3 b hb).1, let ⟨o, q⟩ := (z3 b hb).2; ⟨o, .inl q⟩⟩⟩
        | own d =>
          obtain ⟨v, z1, z2, z3, z4⟩ := z
          refine ⟨v, z1, z2, z3, fun b hb => ⟨(z4 b hb).1, fun o q => ?_⟩⟩
          rcases q with q | ⟨q, _⟩
          · exact (z4 b hb).2 o q
          · rcases hfi b q with ⟨o', z'⟩ | z'
            · exact (z4 b hb).2 o' z'
            · obtain ⟨t, ht, hle⟩ := h0.get e
              cases hle
              exact st.fresh_own z' ht hb
    refine for_it w (fun i σ' H' => ∃ (s : S2) (n' : Nat) (Bs' : Addr → HO → Prop), Sub (fun b o => Bs b o ∨ (b ∈ fi ∧ H1 b = some o)) Bs' ∧ STe K T Bs' po (ρl s) σ' H' n' ∧ G H' ∧ Tpk K H1 H' ∧ (forW f (xs.drop i) s : M (Ctl R B S2)) n' (fun c n' => match c with | .nxt s => k s n' P | .ret r => P (.ret r) n' | .brk b => P (.brk b) n')) ⟨s0, n1, _, fun _ _ z => z, ⟨φ, st2⟩, g0, Tpk.refl, by rw [List.drop_zero]; exact pa⟩ (fun i σ' H' _ z => by obtain ⟨_, _, _, _, _, z, _⟩ := z; exact z) ?_ ?_
    · rintro i x σ' HA HB hi' ⟨s, n', Bs', sub, ⟨φ', st'⟩, gA, tpA, pl⟩ hy
      obtain ⟨a, ha, sAB, imx⟩ := gy i HA x HB hi' gA hy
      have stB := st'.af (Af.same sAB)
      have hdr : xs.drop i = a :: xs.drop (i + 1) := by
        rw [List.drop_eq_getElem_cons hi']
        congr 1
        exact Option.some.inj ((List.getElem?_eq_getElem hi').symm.trans ha)
      rw [hdr, forW_cons] at pl
      refine hg a s Bs' po φ' σ' HB n' stB x [] imx List.nodup_nil (fun b hb => absurd hb List.not_mem_nil) _ fun σ2 φ2 stx _ _ => ?_
      have subB : Sub Bs Bs' := fun b o z => sub b o (.inl z)
      have tpAB : Tpk K H HB := Tpk.trans (Tpk.trans a1.fr.tup tpA) fun _ _ e => sAB _ _ e
      -- what goes on holds the lists as they were
      have keep : ∀ (Bs2 : Addr → HO → Prop) (s2 : S2) σ3 HC n3, Sub Bs' Bs2 → STe K T Bs2 po (ρl s2) σ3 HC n3 → Tpk K HB HC → G HC := fun Bs2 s2 σ3 HC n3 sb ⟨φ3, st3⟩ tp3 => by
        refine gs HA HC (fun b hb l e => ?_) (fun b l e => tp3 b l (sAB _ _ e)) (fun b hb => ?_) gA
        · obtain ⟨l', hl'⟩ := hlst b hb
          have z1 := (st'.base b _ (sub b _ (.inr ⟨hb, hl'⟩))).1
          rw [e] at z1
          have z2 : l = l' := by injection z1 with z1; injection z1
          have z3 := (st3.base b _ (sb b _ (sub b _ (.inr ⟨hb, hl'⟩)))).1
          rw [z2]
          exact z3
        · obtain ⟨l', hl'⟩ := hlst b hb
          exact ⟨l', hl', (st'.base b _ (sub b _ (.inr ⟨hb, hl'⟩))).1⟩
      refine (hb a s).go (Bs := Bs') hC ⟨φ2, stx⟩ pl (fun _ _ z => z) (Tpk.refl) (fun s2 n2 σ3 H3 Bs3 p3 sb3 st3 tp3 => ?_) (fun s2 n2 σ3 H3 Bs3 p3 sb3 st3 tp3 => ?_) fun r n2 v H3 fp p3 tb bs pt tp3 im nd hf => ?_
      · exact ⟨s2, n2, Bs3, fun b o z => sb3 b o (sub b o z), st3, keep Bs3 s2 σ3 H3 n2 sb3 st3 tp3, Tpk.trans tpA (Tpk.trans (fun _ _ e => sAB _ _ e) tp3), p3⟩
      · exact (hu s2).go (Bs := Bs) hC st3 p3 (fun b o z => sb3 b o (subB b o z)) (Tpk.trans tpAB tp3) h1 h2 h3
      · exact h3 r n2 v H3 fp p3 tb (fun b o z => bs b o (subB b o z)) pt (Tpk.trans tpAB tp3) im nd fun b hb => ⟨(hf b hb).1, fun o z => (hf b hb).2 o (subB b o z)⟩
    · rintro σ' HA ⟨s, n', Bs', sub, st', gA, tpA, pl⟩
      rw [List.drop_length, forW_nil] at pl
      exact (hu s).go (Bs := Bs) hC st' pl (fun b o z => sub b o (.inl z)) (Tpk.trans a1.fr.tup tpA) h1 h2 h3
/-- a pot is made: what is drawn is drawn from it -/
def NoPot : List Sl → Prop
  | [] => True
  | .pot :: _ => False
  | _ :: ss => NoPot ss
theorem NoPot.get : ∀ {ρ : List Sl}, NoPot ρ → ∀ i : Nat, ρ[i]? = some Sl.pot → False
  | [], _, i, e => by cases e
  | s :: ss, h, 0, e => by
    obtain rfl : s = Sl.pot := Option.some.inj e
    exact h
  | s :: ss, h, i + 1, e => by
    have : NoPot ss := by cases s <;> first | exact h | exact h.elim
    exact NoPot.get this i e
theorem ST.unpot {Bs : Addr → HO → Prop} {po : Option Addr} {ρ : List Sl} {φ : Nat → List Addr} {σ : L2.St} {H : Hp} {n n2 : Nat} (h : ST K T Bs po ρ φ σ H n) (hp : NoPot ρ) : ST K T Bs none ρ φ σ H n2 where
  tabs := h.tabs
  base := fun b o z => ⟨(h.base b o z).1, (h.base b o z).2.1, by simp⟩
  pot := fun a e => nomatch e
  len := h.len
  sl := fun i s e => by
    have z := h.sl i s e
    cases s with
    | any => trivial
    | pot => exact (hp.get i e).elim
    | scr ns => exact z
    | lkd d => obtain ⟨a, od, u, z1, z2, z3⟩ := z; exact ⟨a, od, u, z1, by simp, z3⟩
    | borA v' fq d => exact ⟨z.1, z.2.1, fun b hb => ⟨by simp, (z.2.2 b hb).2⟩⟩
    | bor d => obtain ⟨v, z1, z2, z3⟩ := z; exact ⟨v, z1, z2, fun b hb => ⟨by simp, (z3 b hb).2⟩⟩
    | own d => obtain ⟨v, z1, z2, z3, z4⟩ := z; exact ⟨v, z1, z2, z3, fun b hb => ⟨by simp, (z4 b hb).2⟩⟩
  dis := h.dis
def potW {R B S : Type} (c : Prop) (m : M (Ctl R B S)) : M (Ctl R B S) := fun n P => c ∧ m 0 fun x _ => P x n
theorem rb_newpot {te : TE} {tu : TS} {i : Nat} {c : Prop} {m : M (Ctl R B S)} {ρ2 : List Sl} (he : ∀ (Bs : Addr → HO → Prop) (φ : Nat → List Addr) (σ : L2.St) (H : Hp) (n : Nat), ST K T Bs none ρ φ σ H n → c → ∀ Q : VK, (∀ a H', Same H H' → H a = none → Pot H' a 0 → Q (.ref a) H') → te σ H Q)
    (hi : i < ρ.length) (h0 : NoPot ρ) (e : ρ.set i .pot = ρ2) (hu : RB K T (fun _ => True) tu ρ2 m ρn ρb) (hn : ∀ s, NoPot (ρn s)) (hb : ∀ s, NoPot (ρb s)) : RB K T (fun po => po = none) (tSeq (tAsg te (gName i)) tu) ρ (potW c m) ρn ρb :=
  fun Bs po hC σ H n ⟨φ, st⟩ P p D h1 h2 h3 => by
    subst hC
    refine he Bs φ σ H n st p.1 _ fun a H' s na pt => ?_
    have st1 := st.af (Af.same s (n := n))
    have fa : Fsh H a := fun o e => by rw [na] at e; cases e
    have st2 : ST K T Bs (some a) ρ2 φ (σ.set i (some (.ref a))) H' 0 := by
      subst e
      refine ⟨st1.tabs, fun b o z => ⟨(st1.base b o z).1, (st1.base b o z).2.1, fun w => st.fresh_bs fa o (by rw [Option.some.inj w]; exact z)⟩, fun b w => by rw [← Option.some.inj w]; exact pt, by rw [List.length_set, List.length_set, st1.len], fun j x ej => ?_, fun j k d1 d2 hjk ej ek => ?_⟩
      · rw [List.getElem?_set] at ej ⊢
        by_cases hij : i = j
        · subst hij
          rw [if_pos rfl, if_pos hi] at ej
          obtain rfl := Option.some.inj ej
          rw [if_pos rfl, if_pos (by rw [st1.len]; exact hi)]
          exact ⟨a, rfl, rfl⟩
        · rw [if_neg hij] at ej ⊢
          have z := st1.sl j x ej
          cases x with
          | any => trivial
          | pot => exact (h0.get j ej).elim
          | scr ns => exact z
          | borA v' fq d => exact ⟨z.1, z.2.1, fun b hb => ⟨fun w => by obtain ⟨o, q⟩ := (z.2.2 b hb).2; exact st.fresh_bs fa o (by rw [Option.some.inj w]; exact q), (z.2.2 b hb).2⟩⟩
          | lkd d =>
            obtain ⟨b, od, u, z1, z2, z3, z4⟩ := z
            have hne : (some a : Option Addr) ≠ some b := fun w => by
              obtain ⟨x, y, z, hH, _⟩ := pt
              rw [Option.some.inj w, z3] at hH
              cases hH
            exact ⟨b, od, u, z1, hne, z3, z4⟩
          | bor d =>
            obtain ⟨v, z1, z2, z3⟩ := z
            exact ⟨v, z1, z2, fun b hb => ⟨fun w => by obtain ⟨o, q⟩ := (z3 b hb).2; exact st.fresh_bs fa o (by rw [Option.some.inj w]; exact q), (z3 b hb).2⟩⟩
          | own d =>
            obtain ⟨v, z1, z2, z3, z4⟩ := z
            exact ⟨v, z1, z2, z3, fun b hb => ⟨fun w => st.fresh_own fa ej (by rw [Option.some.inj w]; exact hb), (z4 b hb).2⟩⟩
      · rw [List.getElem?_set] at ej ek
        by_cases hij : i = j
        · rw [if_pos hij] at ej; split at ej <;> cases ej
        · rw [if_neg hij] at ej
          by_cases hik : i = k
          · rw [if_pos hik] at ek; split at ek <;> cases ek
          · rw [if_neg hik] at ek
            exact st1.dis j k d1 d2 hjk ej ek
    have tp : Tpk K H H' := fun _ _ z => s _ _ z
    refine hu Bs (some a) trivial _ H' 0 ⟨φ, st2⟩ _ p.2 D (fun s' n' σ' H'' Bs' p' sb ⟨φ', st'⟩ tp' => ?_) (fun s' n' σ' H'' Bs' p' sb ⟨φ', st'⟩ tp' => ?_) fun r n' v H'' fp p' tb bs pt' tp' im nd hf => ?_
    · exact h1 s' n σ' H'' Bs' p' sb ⟨φ', st'.unpot (hn s')⟩ (Tpk.trans tp tp')
    · exact h2 s' n σ' H'' Bs' p' sb ⟨φ', st'.unpot (hb s')⟩ (Tpk.trans tp tp')
    · exact h3 r n v H'' fp p' tb bs (fun a z => nomatch z) (Tpk.trans tp tp') im nd fun b hb => ⟨by simp, (hf b hb).2⟩
theorem re_lenS {i : Nat} {ns : List Int} (hi : ρ[i]? = some (.scr ns)) : RE K T (tCB (fun xs H Q => ∃ p ys, xs = [.ref p] ∧ (SqL K H p ys ∨ SqT K H p ys) ∧ Q (.int ys.length) H) (tCons (tVar i) tNil)) ρ true (retW ns.length) := fun Bs po φ σ H n st P p Q q => by
  obtain ⟨a, h1, h2⟩ := st.sl i _ hi
  have hS : SqL K H a (ns.map V.int) := by
    rcases h2 with ⟨o, z1, z2⟩ | z
    · have := (st.base a o z1).1
      rcases z2 with rfl | ⟨w, rfl⟩
      · exact .inl (.inl this)
      · exact .inl (.inr ⟨w, this⟩)
    · exact .inr z
  exact ⟨_, h1, a, _, rfl, .inl hS, q _ n _ H [] p Af.refl (by rw [List.length_map]; exact .int _) Fp.nil⟩
theorem scr_sql {Bs : Addr → HO → Prop} {po : Option Addr} {ρ : List Sl} {φ : Nat → List Addr} {σ : L2.St} {H : Hp} {n i : Nat} {ns : List Int} (st : ST K T Bs po ρ φ σ H n) (hi : ρ[i]? = some (.scr ns)) : ∃ a, σ[i]? = some (some (.ref a)) ∧ SqL K H a (ns.map V.int) := by
  obtain ⟨a, h1, h2⟩ := st.sl i _ hi
  refine ⟨a, h1, ?_⟩
  rcases h2 with ⟨o, z1, z2⟩ | z
  · have := (st.base a o z1).1
    rcases z2 with rfl | ⟨w, rfl⟩
    · exact .inl (.inl this)
    · exact .inl (.inr ⟨w, this⟩)
  · exact .inr z
/-! ### a def from its start on -/
def outW {R B S : Type} (m : M (Ctl R B S)) : M R := fun n P => m n fun c n' => match c with
  | .ret r => P r n'
  | _ => False
def PSl (K : PySem.W.Frag) {α : Type} [Enc α] (s : α → Sl) : Prop := ∀ (Bs : Addr → HO → Prop) (po : Option Addr) (H : Hp) (a : α) (v : V) (fp : List Addr), Im K H v (enc a) fp → (∀ b ∈ fp, po ≠ some b ∧ ∃ o, Bs b o) → SlOk K Bs po H (some (some v)) (s a) fp ∧ ∀ d, s a = .own d → fp = []
theorem psl_own [Pu α] : PSl K (fun a : α => .own (enc a)) := fun Bs po H a v fp im h => by
  have z := Pu.pu im
  subst z
  exact ⟨⟨v, rfl, im, List.nodup_nil, fun b hb => absurd hb List.not_mem_nil⟩, fun _ _ => rfl⟩
theorem psl_bor : PSl K (fun a : α => .bor (enc a)) := fun Bs po H a v fp im h => ⟨⟨v, rfl, im, h⟩, fun d e => nomatch e⟩
theorem st_start {Bs : Addr → HO → Prop} {po : Option Addr} {H : Hp} {n : Nat} {N : List Str} {ss : List Sl} {vs : List V} {fps : List (List Addr)} {ρ : List Sl} (tb : Tabs T H) (hb : ∀ b o, Bs b o → H b = some o ∧ (∀ ps, o ≠ .tbl ps) ∧ po ≠ some b) (hp : ∀ a, po = some a → Pot H a n)
    (hl : vs.length = ss.length) (hs : ∀ i s, ss[i]? = some s → SlOk K Bs po H (vs[i]?.map some) s (fps.getD i [])) (ho : ∀ i d, ss[i]? = some (.own d) → fps.getD i [] = []) (e : ss ++ List.replicate (N.length - ss.length) Sl.any = ρ) : ST K T Bs po ρ (fun i => fps.getD i []) (L2.start N vs) H n := by
  subst e
  have get : ∀ i s, (ss ++ List.replicate (N.length - ss.length) Sl.any)[i]? = some s → ss[i]? = some s ∨ s = Sl.any := fun i s h => by
    by_cases hi : i < ss.length
    · rw [List.getElem?_append_left hi] at h
      exact .inl h
    · rw [List.getElem?_append_right (by omega)] at h
      exact .inr (List.eq_of_mem_replicate (List.mem_of_getElem? h))
  refine ⟨tb, hb, hp, ?_, fun i s h => ?_, fun i j d e hij ei ej => ?_⟩
  · unfold L2.start
    rw [List.length_append, List.length_append, List.length_map, List.length_replicate, List.length_replicate, hl]
  · rcases get i s h with h | rfl
    · have hi := (List.getElem?_eq_some_iff.mp h).1
      have e : (L2.start N vs)[i]? = vs[i]?.map some := by
        unfold L2.start
        rw [List.getElem?_append_left (by rw [List.length_map, hl]; exact hi), List.getElem?_map]
      rw [e]
      exact hs i s h
    · trivial
  · rcases get i _ ei with h | h
    · rw [ho i d h]
      exact fun b hb => absurd hb List.not_mem_nil
    · cases h
/-- what a def tells at its end, nothing drawn -/
theorem end_pure {t : TS} {ρ : List Sl} {mB : M (Ctl R B S)} {H : Hp} {σ : L2.St} {Q : VK} {D : Ends} {P0 : R → Nat → Prop} (hr : RB K T C t ρ mB ρn ρb) (hC : C none) (hD : D.rt = Q)
    (st : STe K T (fun b o => H b = some o ∧ ∀ ps, o ≠ .tbl ps) none ρ σ H 0) (h : outW mB 0 P0) (hq : ∀ r c v' H' fp, P0 r c → Af K T none H 0 H' 0 → Im K H' v' (enc r) fp → fp.Nodup → (∀ b ∈ fp, Fsh H b) → Q v' H') : t D σ H := by
  refine hr _ none hC σ H 0 st _ h D (fun s n' σ' H' Bs' p => p.elim) (fun s n' σ' H' Bs' p => p.elim) fun r n' v H' fp p tb bs pt tp im nd hf => ?_
  rw [hD]
  refine hq r n' v H' fp p ⟨⟨fun b o _ e t => bs b o ⟨e, t⟩, tp⟩, fun _ => tb, fun a z => nomatch z⟩ im nd fun b hb o e => ?_
  by_cases z : ∃ ps, o = .tbl ps
  · exact z
  · exact ((hf b hb).2 o ⟨e, fun ps q => z ⟨ps, q⟩⟩).elim
theorem end_pot {t : TS} {ρ : List Sl} {mB : M (Ctl R B S)} {H : Hp} {σ : L2.St} {Q : VK} {D : Ends} {q : Addr} {n : Nat} {P0 : R → Nat → Prop} (hr : RB K T C t ρ mB ρn ρb) (hC : C (some q)) (hD : D.rt = Q)
    (st : STe K T (fun b o => H b = some o ∧ (∀ ps, o ≠ .tbl ps) ∧ b ≠ q) (some q) ρ σ H n) (h : outW mB n P0) (hq : ∀ r n' v' H' fp, P0 r n' → Af K T (some q) H n H' n' → Im K H' v' (enc r) fp → fp.Nodup → (∀ b ∈ fp, b ≠ q ∧ Fsh H b) → Q v' H') : t D σ H := by
  refine hr _ (some q) hC σ H n st _ h D (fun s n' σ' H' Bs' p => p.elim) (fun s n' σ' H' Bs' p => p.elim) fun r n' v H' fp p tb bs pt tp im nd hf => ?_
  rw [hD]
  refine hq r n' v H' fp p ⟨⟨fun b o hb e t => bs b o ⟨e, t, fun z => hb (by rw [z])⟩, tp⟩, fun _ => tb, fun a z _ => pt a z⟩ im nd fun b hb => ⟨fun w => (hf b hb).1 (by rw [w]), fun o e => ?_⟩
  by_cases z : ∃ ps, o = .tbl ps
  · exact z
  · exact ((hf b hb).2 o ⟨e, fun ps q => z ⟨ps, q⟩, fun w => (hf b hb).1 (by rw [w])⟩).elim
end
end Bf
namespace Bf
open PySem PySem.Spec PyProof.Rows L2 LamX NdefX
section
variable {K : PySem.W.Frag} {T : List (Addr × Str)} {ρ : List Sl}
theorem lists_bs {H : Hp} {v : V} {d : PyData} {fp : List Addr} (h : Im K H v d fp) : ∀ b ∈ fp, (none : Option Addr) ≠ some b ∧ ∃ o, H b = some o ∧ ∀ ps, o ≠ .tbl ps := fun b hb => by
  obtain ⟨l, hl, hm⟩ := Im.mtb _ _ _ h b hb
  exact ⟨by simp, _, hl, hm.tbl⟩
theorem keep_pot {H H' : Hp} {n : Nat} {a : Addr} {c c' : Nat} (af : Af K T none H c H' c') (z : Pot H a n) : Pot H' a n := by
  obtain ⟨x, y, w, e, h⟩ := z
  exact ⟨x, y, w, af.fr.keep a _ (by simp) e (fun ps q => nomatch q), h⟩
def c1W {α1 R : Type} (m1 : M α1) (g : α1 → M R) : M R := fun n P => m1 n fun a1 n1 => g a1 n1 P
def spP0 (K : PySem.W.Frag) (T : List (Addr × Str)) {R : Type}  [Enc R] (f : M R) : Sp := fun vs H Q _ => ∃ (q : Addr) (n : Nat)  , vs = [.ref q] ∧ (True) ∧ Tabs T H ∧ Pot H q n ∧ ∃ P0 : R → Nat → Prop, f  n P0 ∧ ∀ r n' v' H' fp, P0 r n' → Af K T (some q) H n H' n' → Im K H' v' (enc r) fp → fp.Nodup → (∀ b ∈ fp, b ≠ q ∧ Fsh H b) → Q v' H'
theorem spP0_len {R : Type}  [Enc R] {f : M R} {vs : List V} {H : Hp} {Q : VK} {E : XK} (h : spP0 K T f vs H Q E) : vs.length = 1 := by
  obtain ⟨q, n, rfl, _⟩ := h
  rfl
theorem p0_run {R : Type}  [Enc R] {B S : Type} {N : List Str}  {ρ : List Sl} (e : [Sl.pot] ++ List.replicate (N.length - 1) Sl.any = ρ ) {t : TS} {mB : M (Ctl R B S)} {ρn : S → List Sl} {ρb : B → List Sl} {C : Option Addr → Prop} (hC : ∀ q, C (some q)) (hr : RB K T C t (ρ ) (mB ) ρn ρb)
    {vs : List V} {H : Hp} {Q : VK} {E : XK} (h : spP0 K T (outW (mB )) vs H Q E) : t { nx := fun _ H' => Q .non H', rt := Q } (L2.start N vs) H := by
  obtain ⟨q, n, rfl, _, tb, pp, P0, h, hq⟩ := h
  refine end_pot (hr ) (hC q) rfl ⟨_, st_start (ss := [Sl.pot]) (fps := [[]]) tb (fun b o z => ⟨z.1, z.2.1, fun w => z.2.2 (Option.some.inj w).symm⟩) (fun a z => by rw [← Option.some.inj z]; exact pp) rfl (fun i s hi => ?_) (fun i d hi => ?_) (e )⟩ h hq
  · match i, hi with
    | 0, hi =>
      obtain rfl := Option.some.inj hi
      exact ⟨q, rfl, rfl⟩
    | i + 1, hi => cases hi
  · match i, hi with
    | 0, hi => cases hi
    | i + 1, hi => cases hi
theorem re_callp0 {R : Type}  [Enc R] {f : M R} {E : XK} {ip : Nat} (hpot : ρ[ip]? = some .pot)  : RE K T (tCall (spP0 K T f) [] E (tCons (tVar ip) tNil)) ρ true f := fun Bs po φ σ H n st P p Q q =>
  let ⟨u, e1, e2⟩ := st.sl ip _ hpot
  ⟨_, e2,
  ⟨u, n, rfl, trivial, st.tabs, st.pot u e1, _, p, fun r c v' H' fp pr af im nd hf => q r c v' H' fp pr ((by rw [e1]; exact af)) im (⟨fun b hb => by rw [e1]; exact fun z => (hf b hb).1 (Option.some.inj z).symm, fun _ => ⟨nd, fun b hb => (hf b hb).2⟩⟩)⟩⟩
def spW1 (K : PySem.W.Frag) (T : List (Addr × Str)) {α1 R : Type} [Enc α1] [Enc R] (f : α1 → M R) : Sp := fun vs H Q _ => ∃ (a1 : α1) (v1 : V) (f1 : List Addr), vs = [v1] ∧ (Im K H v1 (enc a1) f1) ∧ Tabs T H ∧ ∃ P0 : R → Nat → Prop, f a1 0 P0 ∧ ∀ r c v' H' fp, P0 r c → Af K T none H 0 H' 0 → Im K H' v' (enc r) fp → fp.Nodup → (∀ b ∈ fp, Fsh H b) → Q v' H'
theorem spW1_len {α1 R : Type} [Enc α1] [Enc R] {f : α1 → M R} {vs : List V} {H : Hp} {Q : VK} {E : XK} (h : spW1 K T f vs H Q E) : vs.length = 1 := by
  obtain ⟨a1, v1, f1, rfl, _⟩ := h
  rfl
theorem w1_run {α1 R : Type} [Enc α1] [Enc R] {B S : Type} {N : List Str} {s1 : α1 → Sl} (p1 : PSl K s1) {ρ : α1 → List Sl} (e : ∀ a1, [s1 a1] ++ List.replicate (N.length - 1) Sl.any = ρ a1) {t : TS} {mB : α1 → M (Ctl R B S)} {ρn : S → List Sl} {ρb : B → List Sl} {C : Option Addr → Prop} (hC : C none) (hr : ∀ a1, RB K T C t (ρ a1) (mB a1) ρn ρb)
    {vs : List V} {H : Hp} {Q : VK} {E : XK} (h : spW1 K T (fun a1 => outW (mB a1)) vs H Q E) : t { nx := fun _ H' => Q .non H', rt := Q } (L2.start N vs) H := by
  obtain ⟨a1, v1, f1, rfl, i1, tb, P0, h, hq⟩ := h
  refine end_pure (hr a1) hC rfl ⟨_, st_start (ss := [s1 a1]) (fps := [f1]) tb (fun b o z => ⟨z.1, z.2, by simp⟩) (fun a z => nomatch z) rfl (fun i s hi => ?_) (fun i d hi => ?_) (e a1)⟩ h hq
  · match i, hi with
    | 0, hi =>
      obtain rfl := Option.some.inj hi
      exact (p1 _ _ _ _ _ _ i1 (lists_bs i1)).1
    | i + 1, hi => cases hi
  · match i, hi with
    | 0, hi => exact (p1 (fun b o => H b = some o ∧ ∀ ps, o ≠ .tbl ps) none H _ _ _ i1 (lists_bs i1)).2 _ (Option.some.inj hi)
    | i + 1, hi => cases hi
theorem re_call1 {α1 R : Type} [Enc α1] [Enc R] {f : α1 → M R} {E : XK} {t1 : TE} {m1 : M α1} {b1 : Bool} (h1 : RE K T t1 ρ b1 m1) : RE K T (tCall (spW1 K T f) [] E (tCons t1 tNil)) ρ true (c1W m1 fun a1 => pureW (f a1)) := fun Bs po φ σ H n st P p Q q =>
  h1 Bs po φ σ H n st _ p _ fun a1 n1 v1 H1 f1 p1 x1 i1 g1 =>
  ⟨_, _, _, rfl, i1, (st.af x1).tabs, _, p1, fun r c v' H' fp pr af im nd hf => q r n1 v' H' fp pr (Af.trans x1 ⟨Fr.weak af.fr, af.tabs, fun a e z => keep_pot af z⟩) im (Fp.back x1.fr ⟨fun b hb => (st.af x1).fresh_pot (hf b hb), fun _ => ⟨nd, hf⟩⟩)⟩
def spP1 (K : PySem.W.Frag) (T : List (Addr × Str)) {α1 R : Type} [Enc α1] [Enc R] (f : α1 → M R) : Sp := fun vs H Q _ => ∃ (q : Addr) (n : Nat) (a1 : α1) (v1 : V) (f1 : List Addr), vs = [.ref q, v1] ∧ (Im K H v1 (enc a1) f1 ∧ (∀ b ∈ f1, b ≠ q)) ∧ Tabs T H ∧ Pot H q n ∧ ∃ P0 : R → Nat → Prop, f a1 n P0 ∧ ∀ r n' v' H' fp, P0 r n' → Af K T (some q) H n H' n' → Im K H' v' (enc r) fp → fp.Nodup → (∀ b ∈ fp, b ≠ q ∧ Fsh H b) → Q v' H'
theorem re_callp1 {α1 R : Type} [Enc α1] [Enc R] {f : α1 → M R} {E : XK} {ip : Nat} (hpot : ρ[ip]? = some .pot) {t1 : TE} {m1 : M α1} {b1 : Bool} (h1 : RE K T t1 ρ b1 m1) : RE K T (tCall (spP1 K T f) [] E (tCons (tVar ip) (tCons t1 tNil))) ρ true (c1W m1 f) := fun Bs po φ σ H n st P p Q q =>
  let ⟨u, e1, e2⟩ := st.sl ip _ hpot
  ⟨_, e2,
  h1 Bs po φ σ H n st _ p _ fun a1 n1 v1 H1 f1 p1 x1 i1 g1 =>
  ⟨u, n1, _, _, _, rfl, ⟨i1, fun b hb z => g1.1 b hb (by rw [z]; exact e1)⟩, (st.af x1).tabs, (st.af x1).pot u e1, _, p1, fun r c v' H' fp pr af im nd hf => q r c v' H' fp pr (Af.trans x1 (by rw [e1]; exact af)) im (Fp.back x1.fr ⟨fun b hb => by rw [e1]; exact fun z => (hf b hb).1 (Option.some.inj z).symm, fun _ => ⟨nd, fun b hb => (hf b hb).2⟩⟩)⟩⟩
end
end Bf
namespace Bf
open PySem PySem.Spec PyProof.Rows L2 LamX NdefX
/-! ### who is between -/
end Bf
namespace Bf
open PySem PySem.Spec PyProof.Rows L2 LamX NdefX
/-! ### the tree through a hand -/
end Bf
namespace Bf
open PySem PySem.Spec PyProof.Rows L2 LamX NdefX
end Bf
namespace Bf
open PySem PySem.Spec PyProof.Rows L2 LamX NdefX
/-- a def that is called -/
structure CalF (P : Program) (w : World) (K : PySem.W.Frag) (mg : Str → Option Value) (base : Heap) (k : Nat) (x : Str) (f : Addr) (fd : FuncData) (ps : List Str) (sp : Sp) : Prop where
  G : FnOk P w K mg base CX0 k f fd ps sp
  kp : PySem.W.keepIn K (.ref f) = true
  b : Binds K fd ps []
  g : mg x = some (.ref f)
structure CalG (P : Program) (w : World) (K : PySem.W.Frag) (mg : Str → Option Value) (base : Heap) (k : Nat) (x : Str) (f : Addr) (fd : FuncData) (ps : List Str) (sp : Sp) : Prop where
  G : FnG P w K mg base k f fd ps sp
  kp : PySem.W.keepIn K (.ref f) = true
  b : Binds K fd ps []
  g : mg x = some (.ref f)
/-- the built-ins are what they are -/
structure Bls (mg : Str → Option Value) : Prop where
  len : mg "len" = none
  tuple : mg "tuple" = none
  list : mg "list" = none
  range : mg "range" = none
  min : mg "min" = none
  max : mg "max" = none
  abs : mg "abs" = none
  int : mg "int" = none
  all : mg "all" = none
  any : mg "any" = none
  zip : mg "zip" = none
  enumerate : mg "enumerate" = none
  reversed : mg "reversed" = none
  repr : mg "repr" = none
  sorted : mg "sorted" = none
  sum : mg "sum" = none
  set : mg "set" = none
theorem FnG.imp {P : Program} {w : World} {K : PySem.W.Frag} {mg : Str → Option Value} {base : Heap} {k : Nat} {f : Addr} {fd : FuncData} {ps : List Str} {sp sp' : Sp} (F : FnG P w K mg base k f fd ps sp) (h : ∀ vs H Q E, sp' vs H Q E → sp vs H Q E) : FnG P w K mg base k f fd ps sp' :=
  ⟨fun vs H Q E q => F.len vs H Q E (h _ _ _ _ q), fun A outer s H args us vs Q E gd hr he hb hv hs => F.go A outer s H args us vs Q E gd hr he hb hv (h _ _ _ _ hs)⟩
theorem af_keeps {K : PySem.W.Frag} {T : List (Addr × Str)} {H H' : Hp} {q : Addr} {n n' : Nat} (pp : Pot H q n) (kk : Keeps q H H') (p' : Pot H' q n') : Af K T (some q) H n H' n' := by
  obtain ⟨l, hl⟩ := pot_lst pp
  exact ⟨Fr.keeps hl kk, fun tb => tabs_keeps pp tb kk, fun a e _ => by rw [← Option.some.inj e]; exact p'⟩
def ofW {α : Type} (xs : Lst α) : M α := fun n P => (0 < xs.l.length ∧ xs.l.length < 1073741824 ∧ n < 100000) ∧ ∀ x, x ∈ xs.l → P x (n + 1)
theorem ima_mem {α : Type} [Enc α] [Pu α] {K : PySem.W.Frag} {H : Hp} : ∀ {xs : List α} {vs : List V} {fp : List Addr} {v : V}, ImA K H vs (xs.map enc) fp → v ∈ vs → ∃ x ∈ xs, Im K H v (enc x) []
  | [], _, _, _, h, m => by cases h; cases m
  | x :: xs, _, _, v, h, m => by
    cases h with
    | cons a b q =>
      rcases List.mem_cons.mp m with rfl | m
      · have := Pu.pu a
        subst this
        exact ⟨x, List.mem_cons_self, a⟩
      · obtain ⟨y, h1, h2⟩ := ima_mem b m
        exact ⟨y, List.mem_cons_of_mem _ h1, h2⟩
section
variable {K : PySem.W.Frag} {T : List (Addr × Str)} {ρ : List Sl}
variable {α β γ : Type} [Enc α] [Enc β] [Enc γ]
end
end Bf
namespace Bf
open PySem PySem.Spec PyProof.Rows L2 LamX NdefX
/-! ## a law -/
def spLaw (K : PySem.W.Frag) : Sp := fun vs H Q _ => ∃ (a : Addr) (ns : List Int), vs = [.ref a] ∧ SqL K H a (ns.map V.int) ∧ ns.length ≤ 63 ∧ ∀ H', Q (.bl true) H'
theorem spLaw_len {K : PySem.W.Frag} {vs : List V} {H : Hp} {Q : VK} {E : XK} (h : spLaw K vs H Q E) : vs.length = 1 := by
  obtain ⟨a, ns, rfl, _⟩ := h
  rfl
def spLawT (K : PySem.W.Frag) (T : List (Addr × Str)) : Sp := fun vs H Q _ => ∃ (a : Addr) (ns : List Int), vs = [.ref a] ∧ SqL K H a (ns.map V.int) ∧ ns.length ≤ 63 ∧ Tabs T H ∧ ∀ H', Q (.bl true) H'
theorem scr_ok {K : PySem.W.Frag} {H : Hp} {a : Addr} {vs : List V} (h : SqL K H a vs) : ScrOk K (fun b o => H b = some o ∧ ∀ ps, o ≠ .tbl ps) a vs := by
  rcases h with (h | ⟨o, h⟩) | h
  · exact .inl ⟨_, ⟨h, fun ps z => nomatch z⟩, .inl rfl⟩
  · exact .inl ⟨_, ⟨h, fun ps z => nomatch z⟩, .inr ⟨_, rfl⟩⟩
  · exact .inr h
theorem lawT_run {K : PySem.W.Frag} {T : List (Addr × Str)} {C : Option Addr → Prop} {B S : Type} {N : List Str} {ρ : List Int → List Sl} {t : TS} {mB : List Int → M (Ctl Bool B S)} {ρn : S → List Sl} {ρb : B → List Sl} (e : ∀ ns, [Sl.scr ns] ++ List.replicate (N.length - 1) Sl.any = ρ ns) (hC : C none) (hr : ∀ ns, RB K T C t (ρ ns) (mB ns) ρn ρb)
    {vs : List V} {H : Hp} {Q : VK} {E : XK} (h : spLawT K T vs H Q E) (win : ∀ ns : List Int, ns.length ≤ 63 → outW (mB ns) 0 fun r _ => r = true) : t { nx := fun _ H' => Q .non H', rt := Q } (L2.start N vs) H := by
  obtain ⟨a, ns, rfl, hS, hl, tb, fin⟩ := h
  refine end_pure (hr ns) hC rfl ⟨_, st_start (ss := [.scr ns]) (fps := [[]]) tb (fun b o z => ⟨z.1, z.2, by simp⟩) (fun a z => nomatch z) rfl (fun i s hi => ?_) (fun i d hi => ?_) (e ns)⟩ (win ns hl) fun r c v' H' fp hr af im _ _ => ?_
  · match i, hi with
    | 0, hi =>
      obtain rfl := Option.some.inj hi
      exact ⟨a, rfl, scr_ok hS⟩
    | i + 1, hi => cases hi
  · match i, hi with
    | 0, hi => cases hi
    | i + 1, hi => cases hi
  · subst hr
    cases im
    exact fin H'
theorem law_run {K : PySem.W.Frag} {T : List (Addr × Str)} {C : Option Addr → Prop} {B S : Type} {N : List Str} {ρ : List Int → List Sl} {t : TS} {mB : List Int → M (Ctl Bool B S)} {ρn : S → List Sl} {ρb : B → List Sl} (e : ∀ ns, [Sl.scr ns] ++ List.replicate (N.length - 1) Sl.any = ρ ns) (hC : C none) (hT : T = []) (hr : ∀ ns, RB K T C t (ρ ns) (mB ns) ρn ρb)
    {vs : List V} {H : Hp} {Q : VK} {E : XK} (h : spLaw K vs H Q E) (win : ∀ ns : List Int, ns.length ≤ 63 → outW (mB ns) 0 fun r _ => r = true) : t { nx := fun _ H' => Q .non H', rt := Q } (L2.start N vs) H := by
  obtain ⟨a, ns, rfl, hS, hl, fin⟩ := h
  subst hT
  exact lawT_run (E := fun _ _ _ => True) e hC hr ⟨a, ns, rfl, hS, hl, (fun p hp => absurd hp List.not_mem_nil), fin⟩ win
end Bf
namespace Bf
/-! ## what the words of pyw come to -/
section
variable {α β R B S : Type}
theorem drop_cons {xs : List α} {k : Nat} {y : α} {ys : List α} (e : xs.drop k = y :: ys) : xs[k]? = some y ∧ k < xs.length ∧ xs.drop (k + 1) = ys := by
  have hy : xs[k]? = some y := by
    have := congrArg (fun l => l[0]?) e
    simpa [List.getElem?_drop] using this
  refine ⟨hy, (List.getElem?_eq_some_iff.mp hy).1, ?_⟩
  rw [← List.drop_drop, e]
  rfl
theorem drop_nil {xs : List α} {k : Nat} (e : xs.drop k = []) (hk : k ≤ xs.length) : k = xs.length := by
  have := congrArg List.length e
  rw [List.length_drop] at this
  simp at this
  omega
theorem forW_inv {f : α → S → M (Ctl R S S)} {xs : List α} {s0 : S} {n0 : Nat} {P : Ctl R B S → Nat → Prop} (I : Nat → S → Nat → Prop) (h0 : I 0 s0 n0)
    (h : ∀ i a s n, xs[i]? = some a → I i s n → ∀ Q : Ctl R S S → Nat → Prop, (∀ s' n', I (i + 1) s' n' → Q (.nxt s') n') → (∀ r n', P (.ret r) n' → Q (.ret r) n') → (∀ s' n', P (.nxt s') n' → Q (.brk s') n') → f a s n Q) (he : ∀ s n, I xs.length s n → P (.nxt s) n) : (forW f xs s0 : M (Ctl R B S)) n0 P := by
  have key : ∀ (ys : List α) (k : Nat) (s : S) (n : Nat), xs.drop k = ys → k ≤ xs.length → I k s n → (forW f ys s : M (Ctl R B S)) n P := by
    intro ys
    induction ys with
    | nil =>
      intro k s n e hk i
      have := drop_nil e hk
      subst this
      rw [forW_nil]
      exact he s n i
    | cons y ys ih =>
      intro k s n e hk i
      rw [forW_cons]
      obtain ⟨hy, hk2, ey⟩ := drop_cons e
      exact h k y s n hy i _ (fun s' n' i' => ih (k + 1) s' n' ey hk2 i') (fun r n' p => p) fun s' n' p => p
  exact key xs 0 s0 n0 rfl (Nat.zero_le _) h0
/-- a loop that only goes on -/
theorem seq_for {S2 : Type} {f : α → S → M (Ctl R S S)} {xs : List α} {s0 : S} {n0 : Nat} {k : S → M (Ctl R B S2)} {P : Ctl R B S2 → Nat → Prop} (I : Nat → S → Nat → Prop) (h0 : I 0 s0 n0)
    (h : ∀ i a s n, xs[i]? = some a → I i s n → ∀ Q : Ctl R S S → Nat → Prop, (∀ s' n', I (i + 1) s' n' → Q (.nxt s') n') → f a s n Q) (he : ∀ s n, I xs.length s n → k s n P) : seqW (forW f xs s0) k n0 P := by
  unfold seqW
  refine forW_inv I h0 (fun i a s n e ii Q q1 q2 q3 => h i a s n e ii Q q1) ?_
  exact fun s n i => he s n i
theorem lcW_inv {mt : α → M Bool} {me : α → M β} {xs : List α} {n0 : Nat} {P : Lst β → Nat → Prop} (I : Nat → List β → Nat → Prop) (h0 : I 0 [] n0)
    (h : ∀ i a acc n, xs[i]? = some a → I i acc n → ∀ Q : List β → Nat → Prop, (∀ acc' n', I (i + 1) acc' n' → Q acc' n') → mt a n fun b n1 => if b = true then me a n1 fun y n2 => Q (acc ++ [y]) n2 else Q acc n1) (he : ∀ acc n, I xs.length acc n → P ⟨acc⟩ n) : lcW mt me xs [] n0 P := by
  have key : ∀ (ys : List α) (k : Nat) (acc : List β) (n : Nat), xs.drop k = ys → k ≤ xs.length → I k acc n → lcW mt me ys acc n P := by
    intro ys
    induction ys with
    | nil =>
      intro k s n e hk i
      have := drop_nil e hk
      subst this
      rw [lcW_nil]
      exact he s n i
    | cons y ys ih =>
      intro k acc n e hk i
      rw [lcW_cons]
      obtain ⟨hy, hk2, ey⟩ := drop_cons e
      have z := h k y acc n hy i (fun acc' n' => lcW mt me ys acc' n' P) fun acc' n' i' => ih (k + 1) acc' n' ey hk2 i'
      show mt y n fun b n1 => (if b = true then bindW (me y) fun z => lcW mt me ys (acc ++ [z]) else lcW mt me ys acc) n1 P
      have e2 : (fun (b : Bool) (n1 : Nat) => (if b = true then bindW (me y) fun z => lcW mt me ys (acc ++ [z]) else lcW mt me ys acc) n1 P) = fun b n1 => if b = true then me y n1 fun z n2 => lcW mt me ys (acc ++ [z]) n2 P else lcW mt me ys acc n1 P := by
        funext b n1
        cases b <;> rfl
      rw [e2]
      exact z
  exact key xs 0 [] n0 rfl (Nat.zero_le _) h0
end
end Bf
namespace Bf
open PySem PySem.Spec PyProof.Rows L2 LamX NdefX
/-! ## data that can be shown and compared -/
structure Gd (d : PyData) (W D : Nat) : Prop where
  sh : d.showable = true
  di : d.hasDict = false
  de : d.depth ≤ D
  lv : d.leavesShort 64 = true
  we : d.weight ≤ W
  ca : d.canLay0 = true
theorem Gd.mono {d : PyData} {W D W' D' : Nat} (h : Gd d W D) (hw : W ≤ W') (hd : D ≤ D') : Gd d W' D' := ⟨h.sh, h.di, Nat.le_trans h.de hd, h.lv, Nat.le_trans h.we hw, h.ca⟩
theorem Gd.repr {d : PyData} {W D : Nat} (h : Gd d W D) (hw : W ≤ 250000) (hd : D < 60) : ReprOk d := by
  refine ⟨h.sh, h.di, Nat.lt_of_le_of_lt h.de hd, ?_⟩
  have h1 := PyData.shown_le 64 (by decide) d h.lv
  have h2 := h.we
  rw [sizeLine_eq]
  omega
theorem Gd.refl {d : PyData} {W D : Nat} (h : Gd d W D) : PyData.eqv d d = true := PySem.SeqAt.eqv_refl d h.ca
end Bf
namespace Bf
open PySem PySem.Spec PyProof.Rows L2 LamX NdefX
section
variable {K : PySem.W.Frag} {T : List (Addr × Str)} {ρ : List Sl} {α : Type} [Enc α]
end
end Bf
namespace Bf
open PySem PySem.Spec PyProof.Rows L2 LamX NdefX
section
variable {K : PySem.W.Frag} {T : List (Addr × Str)} {ρ : List Sl} {α : Type} [Enc α]
end
end Bf
namespace Bf
open PySem PySem.Spec PyProof.Rows L2
/-! ### set(xs) of a list of whole numbers -/
section
variable {P : Program} {w : World} {A : Around} {E : Value → Shared → Prop} {s : Shared}
/-- what the filling leaves: S holds just the numbers, all else stands -/
structure Filled (w : World) (S : Addr) (ns : List Int) (s s' : Shared) : Prop where
  set : ∃ c, c ≤ ns.length ∧ SetR w s'.heap S (fun j => decide (j ∈ ns)) c
  keep : ∀ b o, b ≠ S → s.heap.get? b = some o → s'.heap.get? b = some o
  gens : s'.gens = s.gens
  drawn : s'.drawn = s.drawn
  os : s'.os = s.os
end
end Bf
namespace Bf
open PySem PySem.Spec PyProof.Rows L2 LamX NdefX
/-! ### set of a tuple of whole numbers, sorted -/
/-! ### the hands between -/
end Bf
namespace Bf
open PySem PySem.Spec PyProof.Rows L2 LamX NdefX
/-! ## calls, some arguments by place, the others by names -/
/-- a def whose last parameter stands behind a star -/
structure CalS (P : Program) (w : World) (K : PySem.W.Frag) (mg : Str → Option Value) (base : Heap) (k : Nat) (x : Str) (f : Addr) (fd : FuncData) (ps : List Str) (sp : Sp) : Prop where
  G : FnOk P w K mg base CX0 k f fd ps sp
  kp : PySem.W.keepIn K (.ref f) = true
  g : mg x = some (.ref f)
section
variable {K : PySem.W.Frag} {T : List (Addr × Str)} {ρ : List Sl}
variable {α β γ δ : Type} [Enc α] [Enc β] [Enc γ] [Enc δ]
/-! ## bits -/
/-! ## in lists of what may be None -/
/-! ## parts of pairs, threes, whatever is in them -/
/-! ## sorted(set(..)) of numbers -/
end
/-! ## round_bits by what is known of it -/
end Bf
namespace Bf
open PySem PySem.Spec PyProof.Rows L2 LamX NdefX
/-! ## heaps that change at one list -/
structure AfX (K : PySem.W.Frag) (T : List (Addr × Str)) (D : Addr) (po : Option Addr) (H : Hp) (n : Nat) (H' : Hp) (n' : Nat) : Prop where
  keep : ∀ b o, b ≠ D → po ≠ some b → H b = some o → (∀ ps, o ≠ .tbl ps) → H' b = some o
  tup : ∀ b xs, TupX H b xs → TupX H' b xs
  tabs : Tabs T H → Tabs T H'
  pot : ∀ a, po = some a → Pot H a n → Pot H' a n'
section
variable {K : PySem.W.Frag} {T : List (Addr × Str)} {D : Addr} {po : Option Addr} {H H1 H' : Hp} {n n1 n' : Nat}
theorem AfX.of (a : Af K T po H n H' n') : AfX K T D po H n H' n' := ⟨fun b o _ h1 h2 h3 => a.fr.keep b o h1 h2 h3, a.fr.tup, a.tabs, a.pot⟩
theorem AfX.refl : AfX K T D po H n H n := AfX.of Af.refl
theorem AfX.trans (x : AfX K T D po H n H1 n1) (y : AfX K T D po H1 n1 H' n') : AfX K T D po H n H' n' := ⟨fun b o h0 h1 h2 h3 => y.keep b o h0 h1 (x.keep b o h0 h1 h2 h3) h3, fun b xs h => y.tup b xs (x.tup b xs h), fun t => y.tabs (x.tabs t), fun a e p => y.pot a e (x.pot a e p)⟩
theorem AfX.write {l l' : List V} (hp : po ≠ some D) (e : H D = some (.lst l)) : AfX K T D po H n (upd H D (.lst l')) n := by
  refine ⟨fun b o h0 _ h2 _ => by rw [upd_ne h0]; exact h2, fun b xs h => ?_, fun t => tabs_upd t e, fun a ea p => ?_⟩
  · unfold TupX at h ⊢
    rw [upd_ne (fun z => by rw [z, e] at h; cases xs <;> cases h)]
    exact h
  · obtain ⟨x, y, z, hH, hh⟩ := p
    exact ⟨x, y, z, by rw [upd_ne (fun w => hp (by rw [← w]; exact ea))]; exact hH, hh⟩
end
section
variable {α β γ : Type}
end
section
variable {K : PySem.W.Frag} {T : List (Addr × Str)} {ρ : List Sl}
variable {α β γ δ : Type} [Enc α] [Enc β] [Enc γ] [Enc δ]
end
section
variable {K : PySem.W.Frag} {T : List (Addr × Str)} {ρ : List Sl}
variable {α β γ δ : Type} [Enc α] [Enc β] [Enc γ] [Enc δ]
variable {B S : Type} {C : Option Addr → Prop} {ρn : S → List Sl} {ρb : B → List Sl}
end
end Bf
namespace Bf
open PySem PySem.Spec PyProof.Rows L2 LamX NdefX
/-! ## more of what words come to -/
theorem or_w {a b : M Bool} {x y : Bool} {n : Nat} {P : Bool → Nat → Prop} (ha : ∀ Q : Bool → Nat → Prop, Q x n → a n Q) (hb : x = false → ∀ Q : Bool → Nat → Prop, Q y n → b n Q) (p : P (x || y) n) : orW a b n P := by
  refine ha _ ?_
  cases x with
  | true => exact p
  | false => exact hb rfl _ p
section
variable {α β γ R B S S2 : Type}
theorem or_b {a b : M Bool} {x y : Bool} {n : Nat} {k : Bool → M β} {P : β → Nat → Prop} (ha : ∀ Q : Bool → Nat → Prop, Q x n → a n Q) (hb : x = false → ∀ Q : Bool → Nat → Prop, Q y n → b n Q) (p : k (x || y) n P) : bindW (orW a b) k n P := or_w ha hb p
/-- an if that isn't gone into -/
theorem seq_skip {c : Bool} {a : M (Ctl R B S)} {s : S} {k : S → M (Ctl R B S2)} {n : Nat} {P : Ctl R B S2 → Nat → Prop} (e : c = false) (h : k s n P) : seqW (if c = true then a else retW (.nxt s)) k n P := by
  subst e
  exact h
theorem lcW_both {mt : α → M Bool} {me : α → M β} {t : α → Bool} {g : α → β} {xs : List α} {n0 : Nat} {P : Lst β → Nat → Prop} (ht : ∀ (i : Nat) a n, xs[i]? = some a → ∀ Q : Bool → Nat → Prop, Q (t a) n → mt a n Q) (h : ∀ (i : Nat) a n, xs[i]? = some a → t a = true → ∀ Q : β → Nat → Prop, Q (g a) n → me a n Q) (p : P ⟨(xs.filter t).map g⟩ n0) : lcW mt me xs [] n0 P := by
  refine lcW_inv (fun i acc n => n = n0 ∧ acc = ((xs.take i).filter t).map g) ⟨rfl, rfl⟩ ?_ ?_
  · rintro i a acc n e ⟨rfl, rfl⟩ Q q
    refine ht i a _ e _ ?_
    have et : (xs.take (i + 1)).filter t = (xs.take i).filter t ++ (if t a = true then [a] else []) := by
      rw [List.take_add_one, e, List.filter_append]
      show _ ++ List.filter t [a] = _
      rw [List.filter_cons]
      rfl
    cases hta : t a with
    | true =>
      rw [if_pos rfl]
      refine h i a _ e hta _ (q _ _ ⟨rfl, ?_⟩)
      rw [et, hta, if_pos rfl, List.map_append]
      rfl
    | false =>
      rw [if_neg (by decide)]
      refine q _ _ ⟨rfl, ?_⟩
      rw [et, hta, if_neg (by decide), List.append_nil]
  · rintro acc n ⟨rfl, rfl⟩
    rw [List.take_length]
    exact p
end
/-! ## data of a kind: its shape, and when two are equal -/
class Shp (α : Type) [Enc α] where
  dp : Nat
  ca : ∀ a : α, (enc a).canLay0 = true
  di : ∀ a : α, (enc a).hasDict = false
  de : ∀ a : α, (enc a).depth ≤ dp
instance : Shp Nat := ⟨0, fun _ => rfl, fun _ => rfl, fun _ => Nat.le_refl _⟩
instance : Shp Int := ⟨0, fun _ => rfl, fun _ => rfl, fun _ => Nat.le_refl _⟩
instance : Shp Bool := ⟨0, fun _ => rfl, fun _ => rfl, fun _ => Nat.le_refl _⟩
instance : Shp Unit := ⟨0, fun _ => rfl, fun _ => rfl, fun _ => Nat.le_refl _⟩
instance {α : Type} [Enc α] [Shp α] : Shp (Option α) := ⟨Shp.dp α, fun a => match a with | none => rfl | some a => Shp.ca a, fun a => match a with | none => rfl | some a => Shp.di a, fun a => match a with | none => Nat.zero_le _ | some a => Shp.de a⟩
theorem lay_all {α : Type} [Enc α] [Shp α] : ∀ xs : List α, PyData.canLayAll0 (xs.map enc) = true ∧ PyData.hasDictAll (xs.map enc) = false ∧ PyData.depthAll (xs.map enc) ≤ Shp.dp α
  | [] => ⟨rfl, rfl, Nat.zero_le _⟩
  | x :: xs => by
    obtain ⟨h1, h2, h3⟩ := lay_all xs
    refine ⟨?_, ?_, ?_⟩
    · show (PyData.canLay0 (enc x) && PyData.canLayAll0 (xs.map enc)) = true
      rw [Shp.ca x, h1]; rfl
    · show (PyData.hasDict (enc x) || PyData.hasDictAll (xs.map enc)) = false
      rw [Shp.di x, h2]; rfl
    · show max (PyData.depth (enc x)) (PyData.depthAll (xs.map enc)) ≤ _
      have := Shp.de x
      omega
instance {α : Type} [Enc α] [Shp α] : Shp (List α) := ⟨Shp.dp α + 1, fun a => (lay_all a).1, fun a => (lay_all a).2.1, fun a => Nat.succ_le_succ (lay_all a).2.2⟩
instance {α : Type} [Enc α] [Shp α] : Shp (Lst α) := ⟨Shp.dp α + 1, fun a => (lay_all a.l).1, fun a => (lay_all a.l).2.1, fun a => Nat.succ_le_succ (lay_all a.l).2.2⟩
instance {α β : Type} [Enc α] [Enc β] [Shp α] [Shp β] : Shp (α × β) := ⟨max (Shp.dp α) (Shp.dp β) + 1, fun a => by
    show (PyData.canLay0 (enc a.1) && (PyData.canLay0 (enc a.2) && true)) = true
    rw [Shp.ca a.1, Shp.ca a.2]; rfl, fun a => by
    show (PyData.hasDict (enc a.1) || (PyData.hasDict (enc a.2) || false)) = false
    rw [Shp.di a.1, Shp.di a.2]; rfl, fun a => by
    show max (PyData.depth (enc a.1)) (max (PyData.depth (enc a.2)) 0) + 1 ≤ _
    have := Shp.de a.1
    have := Shp.de a.2
    omega⟩
instance {α β γ : Type} [Enc α] [Enc β] [Enc γ] [Shp α] [Shp β] [Shp γ] : Shp (T3 α β γ) := ⟨max (Shp.dp α) (max (Shp.dp β) (Shp.dp γ)) + 1, fun a => by
    show (PyData.canLay0 (enc a.a) && (PyData.canLay0 (enc a.b) && (PyData.canLay0 (enc a.c) && true))) = true
    rw [Shp.ca a.a, Shp.ca a.b, Shp.ca a.c]; rfl, fun a => by
    show (PyData.hasDict (enc a.a) || (PyData.hasDict (enc a.b) || (PyData.hasDict (enc a.c) || false))) = false
    rw [Shp.di a.a, Shp.di a.b, Shp.di a.c]; rfl, fun a => by
    show max (PyData.depth (enc a.a)) (max (PyData.depth (enc a.b)) (max (PyData.depth (enc a.c)) 0)) + 1 ≤ _
    have := Shp.de a.a
    have := Shp.de a.b
    have := Shp.de a.c
    omega⟩
instance {α β γ δ : Type} [Enc α] [Enc β] [Enc γ] [Enc δ] [Shp α] [Shp β] [Shp γ] [Shp δ] : Shp (T4 α β γ δ) := ⟨max (Shp.dp α) (max (Shp.dp β) (max (Shp.dp γ) (Shp.dp δ))) + 1, fun a => by
    show (PyData.canLay0 (enc a.a) && (PyData.canLay0 (enc a.b) && (PyData.canLay0 (enc a.c) && (PyData.canLay0 (enc a.d) && true)))) = true
    rw [Shp.ca a.a, Shp.ca a.b, Shp.ca a.c, Shp.ca a.d]; rfl, fun a => by
    show (PyData.hasDict (enc a.a) || (PyData.hasDict (enc a.b) || (PyData.hasDict (enc a.c) || (PyData.hasDict (enc a.d) || false)))) = false
    rw [Shp.di a.a, Shp.di a.b, Shp.di a.c, Shp.di a.d]; rfl, fun a => by
    show max (PyData.depth (enc a.a)) (max (PyData.depth (enc a.b)) (max (PyData.depth (enc a.c)) (max (PyData.depth (enc a.d)) 0))) + 1 ≤ _
    have := Shp.de a.a
    have := Shp.de a.b
    have := Shp.de a.c
    have := Shp.de a.d
    omega⟩
theorem shp {α : Type} [Enc α] [Shp α] (a : α) (h : Shp.dp α ≤ 64 := by decide) : shapeOk (enc a) := by
  refine ⟨?_, Shp.di a⟩
  unfold SeqAt.shaped
  rw [Shp.ca a, Bool.true_and]
  exact decide_eq_true (Nat.le_trans (Shp.de a) h)
/-- equal data, equal things -/
class Eqv (α : Type) [Enc α] : Prop where
  iff : ∀ a b : α, PyData.eqv (enc a) (enc b) = true ↔ a = b
class NoNone (α : Type) [Enc α] : Prop where
  l : ∀ a : α, PyData.eqv .none (enc a) = false
  r : ∀ a : α, PyData.eqv (enc a) .none = false
instance : Eqv Nat := ⟨fun a b => by
  show ((a : Int) == (b : Int)) = true ↔ a = b
  rw [beq_iff_eq]
  omega⟩
instance : Eqv Int := ⟨fun a b => by
  show (a == b) = true ↔ a = b
  rw [beq_iff_eq]⟩
instance : Eqv Bool := ⟨fun a b => by
  show (a == b) = true ↔ a = b
  rw [beq_iff_eq]⟩
instance : NoNone Nat := ⟨fun _ => rfl, fun _ => rfl⟩
instance : NoNone Int := ⟨fun _ => rfl, fun _ => rfl⟩
instance : NoNone Bool := ⟨fun _ => rfl, fun _ => rfl⟩
instance {α : Type} [Enc α] : NoNone (List α) := ⟨fun _ => rfl, fun _ => rfl⟩
instance {α : Type} [Enc α] : NoNone (Lst α) := ⟨fun _ => rfl, fun _ => rfl⟩
instance {α β : Type} [Enc α] [Enc β] : NoNone (α × β) := ⟨fun _ => rfl, fun _ => rfl⟩
instance {α β γ : Type} [Enc α] [Enc β] [Enc γ] : NoNone (T3 α β γ) := ⟨fun _ => rfl, fun _ => rfl⟩
instance {α β γ δ : Type} [Enc α] [Enc β] [Enc γ] [Enc δ] : NoNone (T4 α β γ δ) := ⟨fun _ => rfl, fun _ => rfl⟩
instance {α : Type} [Enc α] [Eqv α] [NoNone α] : Eqv (Option α) := ⟨fun a b => by
  cases a with
  | none =>
    cases b with
    | none => exact ⟨fun _ => rfl, fun _ => rfl⟩
    | some b => exact ⟨fun h => (by rw [show PyData.eqv (enc (none : Option α)) (enc (some b)) = PyData.eqv .none (enc b) from rfl, NoNone.l b] at h; cases h), fun h => nomatch h⟩
  | some a =>
    cases b with
    | none => exact ⟨fun h => (by rw [show PyData.eqv (enc (some a)) (enc (none : Option α)) = PyData.eqv (enc a) .none from rfl, NoNone.r a] at h; cases h), fun h => nomatch h⟩
    | some b => exact (Eqv.iff a b).trans ⟨fun h => by rw [h], fun h => Option.some.inj h⟩⟩
theorem eqv_all {α : Type} [Enc α] [Eqv α] : ∀ xs ys : List α, PyData.eqvAll (xs.map enc) (ys.map enc) = true ↔ xs = ys
  | [], [] => ⟨fun _ => rfl, fun _ => rfl⟩
  | [], y :: ys => ⟨fun h => Bool.noConfusion h, fun h => List.noConfusion rfl (heq_of_eq h)⟩
  | x :: xs, [] => ⟨fun h => Bool.noConfusion h, fun h => List.noConfusion rfl (heq_of_eq h)⟩
  | x :: xs, y :: ys => by
    show (PyData.eqv (enc x) (enc y) && PyData.eqvAll (xs.map enc) (ys.map enc)) = true ↔ _
    rw [Bool.and_eq_true, Eqv.iff, eqv_all xs ys, List.cons.injEq]
instance {α : Type} [Enc α] [Eqv α] : Eqv (List α) := ⟨fun a b => eqv_all a b⟩
instance {α : Type} [Enc α] [Eqv α] : Eqv (Lst α) := ⟨fun a b => (eqv_all a.l b.l).trans ⟨fun h => (by cases a; cases b; exact congrArg Lst.mk h), fun h => by rw [h]⟩⟩
instance {α β : Type} [Enc α] [Enc β] [Eqv α] [Eqv β] : Eqv (α × β) := ⟨fun a b => by
  show (PyData.eqv (enc a.1) (enc b.1) && (PyData.eqv (enc a.2) (enc b.2) && true)) = true ↔ _
  rw [Bool.and_true, Bool.and_eq_true, Eqv.iff, Eqv.iff]
  cases a; cases b
  exact ⟨fun h => (by obtain ⟨h1, h2⟩ := h; dsimp only at h1 h2; rw [h1, h2]), fun h => (by cases h; exact ⟨rfl, rfl⟩)⟩⟩
instance {α β γ : Type} [Enc α] [Enc β] [Enc γ] [Eqv α] [Eqv β] [Eqv γ] : Eqv (T3 α β γ) := ⟨fun a b => by
  show (PyData.eqv (enc a.a) (enc b.a) && (PyData.eqv (enc a.b) (enc b.b) && (PyData.eqv (enc a.c) (enc b.c) && true))) = true ↔ _
  rw [Bool.and_true, Bool.and_eq_true, Bool.and_eq_true, Eqv.iff, Eqv.iff, Eqv.iff]
  cases a; cases b
  exact ⟨fun h => (by obtain ⟨h1, h2, h3⟩ := h; dsimp only at h1 h2 h3; rw [h1, h2, h3]), fun h => (by cases h; exact ⟨rfl, rfl, rfl⟩)⟩⟩
instance {α β γ δ : Type} [Enc α] [Enc β] [Enc γ] [Enc δ] [Eqv α] [Eqv β] [Eqv γ] [Eqv δ] : Eqv (T4 α β γ δ) := ⟨fun a b => by
  show (PyData.eqv (enc a.a) (enc b.a) && (PyData.eqv (enc a.b) (enc b.b) && (PyData.eqv (enc a.c) (enc b.c) && (PyData.eqv (enc a.d) (enc b.d) && true)))) = true ↔ _
  rw [Bool.and_true, Bool.and_eq_true, Bool.and_eq_true, Bool.and_eq_true, Eqv.iff, Eqv.iff, Eqv.iff, Eqv.iff]
  cases a; cases b
  exact ⟨fun h => (by obtain ⟨h1, h2, h3, h4⟩ := h; dsimp only at h1 h2 h3 h4; rw [h1, h2, h3, h4]), fun h => (by cases h; exact ⟨rfl, rfl, rfl, rfl⟩)⟩⟩
theorem eqv_t {α : Type} [Enc α] [Eqv α] {a b : α} (h : a = b) : PyData.eqv (enc a) (enc b) = true := (Eqv.iff a b).mpr h
end Bf
namespace Bf
open PySem PySem.Spec PyProof.Rows L2 LamX NdefX
/-! ## tuples of four and six; what kind a thing is; chained comparisons -/

structure Bls2 (mg : Str → Option Value) : Prop extends Bls mg where
  isinstance : mg "isinstance" = none
  bool : mg "bool" = none
section
variable {K : PySem.W.Frag} {T : List (Addr × Str)} {ρ : List Sl}
end
/-- what is a tuple, whatever its kind -/
class Tpl (α : Type) [Enc α] : Prop where
  ex : ∀ a : α, ∃ ds, enc a = .tuple ds
instance {α : Type} [Enc α] : Tpl (List α) := ⟨fun _ => ⟨_, rfl⟩⟩
instance {α β : Type} [Enc α] [Enc β] : Tpl (α × β) := ⟨fun _ => ⟨_, rfl⟩⟩
instance {α β γ : Type} [Enc α] [Enc β] [Enc γ] : Tpl (T3 α β γ) := ⟨fun _ => ⟨_, rfl⟩⟩
instance {α β γ δ : Type} [Enc α] [Enc β] [Enc γ] [Enc δ] : Tpl (T4 α β γ δ) := ⟨fun _ => ⟨_, rfl⟩⟩
section
variable {K : PySem.W.Frag} {T : List (Addr × Str)} {ρ : List Sl}
end
structure T6 (α β γ δ ε ζ : Type) where
  a : α
  b : β
  c : γ
  d : δ
  e : ε
  f : ζ
instance {α β γ δ ε ζ : Type} [Enc α] [Enc β] [Enc γ] [Enc δ] [Enc ε] [Enc ζ] : Enc (T6 α β γ δ ε ζ) := ⟨fun x => .tuple [enc x.a, enc x.b, enc x.c, enc x.d, enc x.e, enc x.f]⟩
theorem ima5 {K : PySem.W.Frag} {H : Hp} {vs : List V} {d1 d2 d3 d4 d5 : PyData} {fp : List Addr} (h : ImA K H vs [d1, d2, d3, d4, d5] fp) : ∃ v1 v2 v3 v4 v5 f1 f2 f3 f4 f5, vs = [v1, v2, v3, v4, v5] ∧ Im K H v1 d1 f1 ∧ Im K H v2 d2 f2 ∧ Im K H v3 d3 f3 ∧ Im K H v4 d4 f4 ∧ Im K H v5 d5 f5 ∧ fp = f1 ++ (f2 ++ (f3 ++ (f4 ++ f5))) := by
  cases h with
  | cons a b q =>
    obtain ⟨w2, w3, w4, w5, g2, g3, g4, g5, rfl, h2, h3, h4, h5, e⟩ := ima4 b
    exact ⟨_, w2, w3, w4, w5, _, _, _, _, _, rfl, a, h2, h3, h4, h5, by rw [q, e]⟩
theorem ima6 {K : PySem.W.Frag} {H : Hp} {vs : List V} {d1 d2 d3 d4 d5 d6 : PyData} {fp : List Addr} (h : ImA K H vs [d1, d2, d3, d4, d5, d6] fp) : ∃ v1 v2 v3 v4 v5 v6 f1 f2 f3 f4 f5 f6, vs = [v1, v2, v3, v4, v5, v6] ∧ Im K H v1 d1 f1 ∧ Im K H v2 d2 f2 ∧ Im K H v3 d3 f3 ∧ Im K H v4 d4 f4 ∧ Im K H v5 d5 f5 ∧ Im K H v6 d6 f6 ∧ fp = f1 ++ (f2 ++ (f3 ++ (f4 ++ (f5 ++ f6)))) := by
  cases h with
  | cons a b q =>
    obtain ⟨w2, w3, w4, w5, w6, g2, g3, g4, g5, g6, rfl, h2, h3, h4, h5, h6, e⟩ := ima5 b
    exact ⟨_, w2, w3, w4, w5, w6, _, _, _, _, _, _, rfl, a, h2, h3, h4, h5, h6, by rw [q, e]⟩
instance {α β γ δ ε ζ : Type} [Enc α] [Enc β] [Enc γ] [Enc δ] [Enc ε] [Enc ζ] [Pu α] [Pu β] [Pu γ] [Pu δ] [Pu ε] [Pu ζ] : Pu (T6 α β γ δ ε ζ) := ⟨fun {K H v a fp} h => by
  cases h with
  | tup e b =>
    obtain ⟨v1, v2, v3, v4, v5, v6, f1, f2, f3, f4, f5, f6, rfl, h1, h2, h3, h4, h5, h6, rfl⟩ := ima6 b
    rw [Pu.pu h1, Pu.pu h2, Pu.pu h3, Pu.pu h4, Pu.pu h5, Pu.pu h6]; rfl⟩
instance {α β γ δ ε ζ : Type} [Enc α] [Enc β] [Enc γ] [Enc δ] [Enc ε] [Enc ζ] [Shp α] [Shp β] [Shp γ] [Shp δ] [Shp ε] [Shp ζ] : Shp (T6 α β γ δ ε ζ) := ⟨max (Shp.dp α) (max (Shp.dp β) (max (Shp.dp γ) (max (Shp.dp δ) (max (Shp.dp ε) (Shp.dp ζ))))) + 1, fun a => by
    show (PyData.canLay0 (enc a.a) && (PyData.canLay0 (enc a.b) && (PyData.canLay0 (enc a.c) && (PyData.canLay0 (enc a.d) && (PyData.canLay0 (enc a.e) && (PyData.canLay0 (enc a.f) && true)))))) = true
    rw [Shp.ca a.a, Shp.ca a.b, Shp.ca a.c, Shp.ca a.d, Shp.ca a.e, Shp.ca a.f]; rfl, fun a => by
    show (PyData.hasDict (enc a.a) || (PyData.hasDict (enc a.b) || (PyData.hasDict (enc a.c) || (PyData.hasDict (enc a.d) || (PyData.hasDict (enc a.e) || (PyData.hasDict (enc a.f) || false)))))) = false
    rw [Shp.di a.a, Shp.di a.b, Shp.di a.c, Shp.di a.d, Shp.di a.e, Shp.di a.f]; rfl, fun a => by
    show (max (PyData.depth (enc a.a)) (max (PyData.depth (enc a.b)) (max (PyData.depth (enc a.c)) (max (PyData.depth (enc a.d)) (max (PyData.depth (enc a.e)) (max (PyData.depth (enc a.f)) 0)))))) + 1 ≤ _
    have := Shp.de a.a
    have := Shp.de a.b
    have := Shp.de a.c
    have := Shp.de a.d
    have := Shp.de a.e
    have := Shp.de a.f
    omega⟩
instance {α β γ δ ε ζ : Type} [Enc α] [Enc β] [Enc γ] [Enc δ] [Enc ε] [Enc ζ] : NoNone (T6 α β γ δ ε ζ) := ⟨fun _ => rfl, fun _ => rfl⟩
instance {α β γ δ ε ζ : Type} [Enc α] [Enc β] [Enc γ] [Enc δ] [Enc ε] [Enc ζ] [Eqv α] [Eqv β] [Eqv γ] [Eqv δ] [Eqv ε] [Eqv ζ] : Eqv (T6 α β γ δ ε ζ) := ⟨fun a b => by
  show (PyData.eqv (enc a.a) (enc b.a) && (PyData.eqv (enc a.b) (enc b.b) && (PyData.eqv (enc a.c) (enc b.c) && (PyData.eqv (enc a.d) (enc b.d) && (PyData.eqv (enc a.e) (enc b.e) && (PyData.eqv (enc a.f) (enc b.f) && true)))))) = true ↔ _
  rw [Bool.and_true, Bool.and_eq_true, Bool.and_eq_true, Bool.and_eq_true, Bool.and_eq_true, Bool.and_eq_true, Eqv.iff, Eqv.iff, Eqv.iff, Eqv.iff, Eqv.iff, Eqv.iff]
  cases a; cases b
  exact ⟨fun h => (by obtain ⟨h1, h2, h3, h4, h5, h6⟩ := h; dsimp only at h1 h2 h3 h4 h5 h6; rw [h1, h2, h3, h4, h5, h6]), fun h => (by cases h; exact ⟨rfl, rfl, rfl, rfl, rfl, rfl⟩)⟩⟩
instance {α β γ δ ε ζ : Type} [Enc α] [Enc β] [Enc γ] [Enc δ] [Enc ε] [Enc ζ] : Tpl (T6 α β γ δ ε ζ) := ⟨fun _ => ⟨_, rfl⟩⟩
section
variable {K : PySem.W.Frag} {T : List (Addr × Str)} {ρ : List Sl}
end

section
variable {K : PySem.W.Frag} {T : List (Addr × Str)} {ρ : List Sl}
variable {α β γ δ : Type} [Enc α] [Enc β] [Enc γ] [Enc δ]
/-! ### None or a tuple -/
/-! ### a truth's repr -/
/-! ### is True, is False -/
/-! ### isinstance -/
/-! ### a chained comparison -/
/-! ### three names at once -/
section
variable {R B S : Type} [Enc R] {C : Option Addr → Prop} {ρn : S → List Sl} {ρb : B → List Sl}
theorem rb_par3 [Pu α] [Pu β] [Pu γ] {t1 t2 t3 : TE} {tu : TS} {i j l : Nat} {m1 : M α} {m2 : M β} {m3 : M γ} {k : α → β → γ → M (Ctl R B S)} {ρ2 : α → β → γ → List Sl} (ha : RE K T t1 ρ true m1) (hb : RE K T t2 ρ true m2) (hc : RE K T t3 ρ true m3) (hi : i < ρ.length) (hj : j < ρ.length) (hl : l < ρ.length)
    (e : ∀ a b c, ((ρ.set i (.own (enc a))).set j (.own (enc b))).set l (.own (enc c)) = ρ2 a b c)
    (hu : ∀ a b c, RB K T C tu (ρ2 a b c) (k a b c) ρn ρb) : RB K T C (tSeq (tPar3 i j l (tCons t1 (tCons t2 (tCons t3 tNil)))) tu) ρ (fun n P => m1 n fun a n1 => m2 n1 fun b n2 => m3 n2 fun c n3 => k a b c n3 P) ρn ρb :=
  fun Bs po hC σ H n ⟨φ, st⟩ P p D h1 h2 h3 => ha Bs po φ σ H n st _ p _ fun a n1 v H1 fp pa a1 i1 g1 => hb Bs po φ σ H1 n1 (st.af a1) _ pa _ fun b n2 w H2 fq pb a2 i2 g2 => hc Bs po φ σ H2 n2 ((st.af a1).af a2) _ pb _ fun c n3 u H3 fr pc a3 i3 g3 => by
    have a123 := (a1.trans a2).trans a3
    obtain rfl := Pu.pu i1
    obtain rfl := Pu.pu i2
    obtain rfl := Pu.pu i3
    have st3 := (st.af a123).put0 hi ((i1.af g1.1 a2.fr).af g1.1 a3.fr)
    have st4 := st3.put0 (i := j) (by rw [List.length_set]; exact hj) (i2.af g2.1 a3.fr)
    have st5 := st4.put0 (i := l) (by rw [List.length_set, List.length_set]; exact hl) i3
    rw [e a b c] at st5
    exact ⟨v, w, u, rfl, (hu a b c).go (Bs := Bs) hC ⟨_, st5⟩ pc (fun b o z => z) a123.fr.tup h1 h2 h3⟩
end
/-! ### a list from behind -/
end
end Bf
namespace Bf
open PySem PySem.Spec PyProof.Rows L2 LamX NdefX
/-! ### max(e, key=lambda x: .., default=None) of a list of tuples -/
section
variable {X : Cx} {pins : List (Addr × Obj)} {σ : L2.St} {H : Hp} {s s1 : Shared}
end
end Bf
namespace Bf
open PySem PySem.Spec PyProof.Rows L2 LamX NdefX
/-! ## the greatest of a list of tuples, by one of their parts -/
section
variable {K : PySem.W.Frag} {T : List (Addr × Str)} {ρ : List Sl}
variable {α β γ δ : Type} [Enc α] [Enc β] [Enc γ] [Enc δ]
/-! ## parts of four -/
/-! ## where it stands -/
end
end Bf
namespace Bf
open PySem PySem.Spec PyProof.Rows L2 LamX NdefX
/-! ## dicts with tuples for keys -/
structure Dct (κ β : Type) where
  l : List (κ × β)
instance {κ β : Type} [Enc κ] [Enc β] : Enc (Dct κ β) := ⟨fun d => .dict (d.l.map fun kv => (enc kv.1, enc kv.2))⟩
class TK (κ : Type) [Enc κ] where
  key : κ → List Key
  dec : DecidableEq κ
  inj : ∀ a b, key a = key b → a = b
  en : ∀ a, enc a = .tuple ((key a).map kD)
  obj : ∀ {K : PySem.W.Frag} {H : Hp} {v : V} {a : κ} {fp : List Addr}, Im K H v (enc a) fp → ∃ b, v = .ref b ∧ H b = some (.tup ((key a).map kV))
  back : ∀ {K : PySem.W.Frag} {H : Hp} {b : Addr} {a : κ}, H b = some (.tup ((key a).map kV)) → Im K H (.ref b) (enc a) []
instance {κ : Type} [Enc κ] [TK κ] : DecidableEq κ := TK.dec
instance : TK (T3 Nat Nat Nat) where
  key := fun x => [.inl (x.a : Int), .inl (x.b : Int), .inl (x.c : Int)]
  dec := fun x y => decidable_of_iff (x.a = y.a ∧ x.b = y.b ∧ x.c = y.c) ⟨fun h => by cases x; cases y; obtain ⟨h1, h2, h3⟩ := h; dsimp only at h1 h2 h3; rw [h1, h2, h3], fun h => by subst h; exact ⟨rfl, rfl, rfl⟩⟩
  inj := fun x y h => by
    cases x; cases y
    simp only [List.cons.injEq, Sum.inl.injEq, and_true] at h
    obtain ⟨h1, h2, h3⟩ := h
    simp only [T3.mk.injEq]
    omega
  en := fun _ => rfl
  obj := fun h => by
    cases h with
    | tup e b =>
      obtain ⟨v1, v2, v3, f1, f2, f3, rfl, h1, h2, h3, _⟩ := ima3 b
      cases h1
      cases h2
      cases h3
      exact ⟨_, rfl, e⟩
  back := fun h => .tup h (.cons (.int _) (.cons (.int _) (.cons (.int _) .nil rfl) rfl) rfl)
section
variable {κ β : Type} [Enc κ] [Enc β] [TK κ]
def dPut (l : List (κ × β)) (k : κ) (v : β) : List (κ × β) := if (l.any fun kv => decide (kv.1 = k)) = true then l.map (fun kv => if kv.1 = k then (kv.1, v) else kv) else l ++ [(k, v)]
def dGet (l : List (κ × β)) (k : κ) : Option β := (l.find? fun kv => decide (kv.1 = k)).map (·.2)
/-- entries that tell the same -/
inductive Ents (K : PySem.W.Frag) (H : Hp) : List (List Key × V) → List (κ × β) → Prop
  | nil : Ents K H [] []
  | cons {k : κ} {b : β} {v : V} {kvs : List (List Key × V)} {l : List (κ × β)} : Im K H v (enc b) [] → Ents K H kvs l → Ents K H ((TK.key k, v) :: kvs) ((k, b) :: l)
variable {K : PySem.W.Frag} {H H' : Hp}
theorem Ents.to : ∀ {kvs : List (List Key × V)} {l : List (κ × β)}, Ents K H kvs l → (l.map fun kv => ((enc kv.1, enc kv.2) : PyData × PyData)).map Prod.fst = kvs.map (fun kv => .tuple (kv.1.map kD)) ∧ ImA K H (kvs.map Prod.snd) ((l.map fun kv => ((enc kv.1, enc kv.2) : PyData × PyData)).map Prod.snd) []
  | _, _, .nil => ⟨rfl, .nil⟩
  | _, _, .cons h1 h2 => by
    obtain ⟨h3, h4⟩ := Ents.to h2
    refine ⟨?_, .cons h1 h4 rfl⟩
    rw [List.map_cons, List.map_cons, List.map_cons, h3]
    congr 1
    exact TK.en _
theorem Ents.stab (ht : ∀ b xs, TupX H b xs → TupX H' b xs) : ∀ {kvs : List (List Key × V)} {l : List (κ × β)}, Ents K H kvs l → Ents K H' kvs l
  | _, _, .nil => .nil
  | _, _, .cons h1 h2 => .cons (Im.stab ht _ _ _ h1 fun b hb => absurd hb List.not_mem_nil) (h2.stab ht)
theorem Ents.any {k : κ} : ∀ {kvs : List (List Key × V)} {l : List (κ × β)}, Ents K H kvs l → (kvs.any fun kv => decide (kv.1 = TK.key k)) = l.any fun kv => decide (kv.1 = k)
  | _, _, .nil => rfl
  | _, _, .cons (k := k2) h1 h2 => by
    rw [List.any_cons, List.any_cons, h2.any]
    congr 1
    by_cases e : k2 = k
    · subst e; simp
    · rw [decide_eq_false e, decide_eq_false fun z => e (TK.inj _ _ z)]
theorem Ents.put {k : κ} {v : V} {b : β} (hv : Im K H v (enc b) []) {kvs : List (List Key × V)} {l : List (κ × β)} (h : Ents K H kvs l) : Ents K H (putK kvs (TK.key k) v) (dPut l k b) := by
  unfold putK dPut
  rw [h.any]
  by_cases c : (l.any fun kv => decide (kv.1 = k)) = true
  · rw [if_pos c, if_pos c]
    clear c
    induction h with
    | nil => exact .nil
    | @cons k2 b2 v2 kvs l h1 h2 ih =>
      rw [List.map_cons, List.map_cons]
      by_cases e : k2 = k
      · subst e
        rw [if_pos rfl, if_pos rfl]
        exact .cons hv ih
      · rw [if_neg e, if_neg fun z => e (TK.inj _ _ z)]
        exact .cons h1 ih
  · rw [if_neg c, if_neg c]
    clear c
    induction h with
    | nil => exact .cons hv .nil
    | cons h1 h2 ih => exact .cons h1 ih
theorem Ents.get {k : κ} {b : β} : ∀ {kvs : List (List Key × V)} {l : List (κ × β)}, Ents K H kvs l → dGet l k = some b → ∃ v, valV kvs (TK.key k) = some v ∧ Im K H v (enc b) []
  | _, _, .nil, e => by cases e
  | _, _, .cons (k := k2) (v := v2) h1 h2, e => by
    unfold dGet at e
    rw [List.find?_cons] at e
    by_cases c : k2 = k
    · subst c
      simp at e
      subst e
      exact ⟨v2, valV_pos rfl, h1⟩
    · rw [decide_eq_false (by exact c)] at e
      obtain ⟨v, h3, h4⟩ := h2.get (b := b) (k := k) e
      refine ⟨v, ?_, h4⟩
      unfold valV at h3 ⊢
      rw [List.find?_cons, decide_eq_false (show ¬ TK.key k2 = TK.key k from fun z => c (TK.inj _ _ z))]
      exact h3
theorem Ents.len : ∀ {kvs : List (List Key × V)} {l : List (κ × β)}, Ents K H kvs l → kvs.length = l.length
  | _, _, .nil => rfl
  | _, _, .cons h1 h2 => by rw [List.length_cons, List.length_cons, h2.len]
theorem Ents.at {k : List Key} {v : V} : ∀ {kvs : List (List Key × V)} {l : List (κ × β)} {i : Nat}, Ents K H kvs l → kvs[i]? = some (k, v) → ∃ x, l[i]? = some x ∧ TK.key x.1 = k
  | _, _, 0, .nil, e => by cases e
  | _, _, i + 1, .nil, e => by cases e
  | _, _, 0, .cons h1 h2, e => by cases e; exact ⟨_, rfl, rfl⟩
  | _, _, i + 1, .cons h1 h2, e => h2.at e
end
section
variable {K : PySem.W.Frag} {T : List (Addr × Str)} {ρ : List Sl}
variable {κ α β : Type} [Enc κ] [Enc α] [Enc β] [TK κ]
end
section
variable {K : PySem.W.Frag} {T : List (Addr × Str)} {ρ : List Sl} {C : Option Addr → Prop}
variable {κ α β R S B : Type} [Enc κ] [Enc α] [Enc β] [Enc R] [TK κ] {ρn : S → List Sl} {ρb : B → List Sl}
end
end Bf
namespace Bf
open PySem PySem.Spec PyProof.Rows L2
/-! ### zip of two tuples and a list -/
end Bf
namespace Bf
open PySem PySem.Spec PyProof.Rows L2 LamX NdefX
section
variable {K : PySem.W.Frag} {T : List (Addr × Str)} {ρ : List Sl}
variable {κ α β : Type} [Enc κ] [Enc α] [Enc β] [TK κ]
end
section
variable {K : PySem.W.Frag} {T : List (Addr × Str)} {ρ : List Sl}
variable {α β γ : Type} [Enc α] [Enc β] [Enc γ]
end
end Bf
namespace Bf
open PySem PySem.Spec PyProof.Rows L2 LamX NdefX
/-! ## xs[::e], e one of 1, -1; list(d); chained comparisons of whole numbers -/
section
variable {K : PySem.W.Frag} {T : List (Addr × Str)} {ρ : List Sl}
variable {κ α β : Type} [Enc κ] [Enc α] [Enc β] [TK κ]
/-- a power written out -/
theorem re_pow {a b c : Nat} (h : (Builtin.Int.intBits (a : Int) : Int) * (b : Int) ≤ 2 ^ 27) (e : a ^ b = c) : RE K T (tOp (rI (fun i j => 0 ≤ j ∧ (Builtin.Int.intBits i : Int) * j ≤ 2 ^ 27) fun i j => .int (i ^ j.toNat)) (tC (.int ((a : Nat) : Int))) (tC (.int ((b : Nat) : Int)))) ρ true (retW c) := fun Bs po φ σ H n st P p Q q => by
  refine ⟨(a : Int), (b : Int), rfl, rfl, ⟨Int.natCast_nonneg b, h⟩, ?_⟩
  have e2 : ((a : Int)) ^ ((b : Int)).toNat = ((c : Nat) : Int) := by
    rw [← e, Int.toNat_natCast, Int.natCast_pow]
  show Q (.int ((a : Int) ^ ((b : Int)).toNat)) H
  rw [e2]
  exact q c n _ H [] p Af.refl (.int _) Fp.nil
end
end Bf
namespace Bf
open PySem PySem.Spec PyProof.Rows L2 LamX NdefX
/-! ## sum(list): numbers, or numbers where None might stand -/
section
variable {K : PySem.W.Frag}
end
end Bf
namespace Bf
open PySem PySem.Spec PyProof.Rows L2 LamX NdefX
/-! ## how many unlike ones -/
section
variable {α : Type} [DecidableEq α]
end
/-! ### set of a tuple of tuples of whole numbers -/
section
variable {P : Program} {w : World} {A : Around} {E : Value → Shared → Prop} {s : Shared}
structure FilledT (P : Program) (w : World) (S : Addr) (ks : List (Addr × List Int)) (s s' : Shared) : Prop where
  set : ∃ L, SetT0 P w s'.heap S L ∧ Got ks ks.length L
  keep : ∀ b o, b ≠ S → s.heap.get? b = some o → s'.heap.get? b = some o
  gens : s'.gens = s.gens
  drawn : s'.drawn = s.drawn
  os : s'.os = s.os
end
section
variable {X : Cx}
end
end Bf
namespace Bf
open PySem PySem.Spec PyProof.Rows L2 LamX NdefX
/-! ## len(set(xs)) -/
section
variable {P : Program} {w : World} {K : PySem.W.Frag} {T : List (Addr × Str)} {ρ : List Sl}
end
end Bf
namespace Bf
open PySem PySem.Spec PyProof.Rows L2 LamX NdefX
/-! ## sorted(tuple of whole numbers) -/
section
variable {prog : Program} {w : World} {A : Around} {E : Value → Shared → Prop} {s : Shared}
open SrtO in
end
section
variable {K : PySem.W.Frag}
end
end Bf
namespace Bf
open PySem PySem.Spec PyProof.Rows L2 LamX NdefX
/-! ## repr of a number; zip of a list that is borrowed and a new one -/
section
variable {K : PySem.W.Frag} {T : List (Addr × Str)} {ρ : List Sl} {α β : Type} [Enc α] [Enc β]
end
end Bf
namespace Bf
open PySem PySem.Spec PyProof.Rows L2 LamX NdefX
/-! ## dicts with tuples for keys: by a comprehension, setdefault -/
section
variable {X : Cx} {pins : List (Addr × Obj)} {σ : L2.St} {H : Hp} {s : Shared} {D kb : Addr} {kvs : List (List Key × V)} {k : List Key} {v : V} {r : Value}
end
section
variable {X : Cx} {kx vx tg iter : Expr} {ifs : List Expr} {scope : Scope} {own : List (Str × Nat)} {pos : Pos} {wi : TI} {g : TG} {tt : TT} {tk tv : TE}
end
end Bf
namespace Bf
open PySem PySem.Spec PyProof.Rows L2 LamX NdefX
/-! ## dicts with pairs for keys in the layer -/
instance : TK (Nat × Nat) where
  key := fun x => [.inl (x.1 : Int), .inl (x.2 : Int)]
  dec := inferInstance
  inj := fun x y h => by
    obtain ⟨a, b⟩ := x
    obtain ⟨c, d⟩ := y
    simp only [List.cons.injEq, Sum.inl.injEq, and_true] at h
    obtain ⟨h1, h2⟩ := h
    have e1 : a = c := by omega
    have e2 : b = d := by omega
    rw [e1, e2]
  en := fun _ => rfl
  obj := fun h => by
    cases h with
    | tup e b =>
      obtain ⟨v1, v2, f1, f2, rfl, h1, h2, _⟩ := ima2 b
      cases h1
      cases h2
      exact ⟨_, rfl, e⟩
  back := fun h => .tup h (.cons (.int _) (.cons (.int _) .nil rfl) rfl)
section
variable {K : PySem.W.Frag} {T : List (Addr × Str)} {ρ : List Sl} {Bs : Addr → HO → Prop} {po : Option Addr} {φ : Nat → List Addr} {σ : L2.St} {H H1 : Hp} {n n1 : Nat}
variable {κ α β : Type} [Enc κ] [Enc α] [Enc β] [TK κ]
def IsSl (ρ : List Sl) (i : Nat) (d : PyData) : Prop := ρ[i]? = some (.own d) ∨ ρ[i]? = some (.bor d) ∨ ρ[i]? = some (.lkd d)
theorem IsSl.o {i : Nat} {d : PyData} (h : ρ[i]? = some (.own d)) : IsSl ρ i d := .inl h
theorem IsSl.b {i : Nat} {d : PyData} (h : ρ[i]? = some (.bor d)) : IsSl ρ i d := .inr (.inl h)
theorem IsSl.l {i : Nat} {d : PyData} (h : ρ[i]? = some (.lkd d)) : IsSl ρ i d := .inr (.inr h)
end
/-! ### d.setdefault(k, v) as a statement -/
section
variable {κ β : Type} [Enc κ] [Enc β] [TK κ]
variable {K : PySem.W.Frag} {T : List (Addr × Str)} {ρ : List Sl} {C : Option Addr → Prop}
variable {α R S B : Type} [Enc α] [Enc R] {ρn : S → List Sl} {ρb : B → List Sl}
end
/-! ### a comprehension that makes a dict -/
section
variable {α κ β : Type}
end
section
variable {K : PySem.W.Frag} {T : List (Addr × Str)} {ρ : List Sl}
variable {α κ β : Type} [Enc α] [Enc κ] [Enc β] [TK κ]
end
end Bf
namespace Bf
open PySem PySem.Spec PyProof.Rows L2 LamX NdefX
/-! ## what is told of a plan -/
inductive Vd where
  | wrong (a b : Nat)
  | lacks (a b : Nat)
  | done (n : Int)
deriving DecidableEq
def Vd.en : Vd → PyData
  | .wrong a b => .tuple [.str "wrong", .int a, .int b]
  | .lacks a b => .tuple [.str "lacks", .int a, .int b]
  | .done n => .tuple [.str "done", .int n]
instance : Enc Vd := ⟨Vd.en⟩
instance : Pu Vd := ⟨fun {K H v a fp} h => by
  cases a with
  | wrong a b =>
    cases h with
    | tup e z => obtain ⟨v, w, u, f1, f2, f3, rfl, h1, h2, h3, rfl⟩ := ima3 z; cases h1; cases h2; cases h3; rfl
  | lacks a b =>
    cases h with
    | tup e z => obtain ⟨v, w, u, f1, f2, f3, rfl, h1, h2, h3, rfl⟩ := ima3 z; cases h1; cases h2; cases h3; rfl
  | done n =>
    cases h with
    | tup e z => obtain ⟨v, w, f1, f2, rfl, h1, h2, rfl⟩ := ima2 z; cases h1; cases h2; rfl⟩
instance : Tpl Vd := ⟨fun a => by cases a <;> exact ⟨_, rfl⟩⟩
instance : Shp Vd := ⟨1, fun a => by cases a <;> (show (_ && _) = true; rw [Bool.and_eq_true]; exact ⟨by decide +kernel, rfl⟩), fun a => by cases a <;> rfl, fun a => by cases a <;> exact Nat.le_refl _⟩
instance : Eqv Vd := ⟨fun x y => by
  have e1 : (("wrong" : Str) == ("lacks" : Str)) = false := by decide +kernel
  have e2 : (("wrong" : Str) == ("done" : Str)) = false := by decide +kernel
  have e3 : (("lacks" : Str) == ("wrong" : Str)) = false := by decide +kernel
  have e4 : (("lacks" : Str) == ("done" : Str)) = false := by decide +kernel
  have e5 : (("done" : Str) == ("wrong" : Str)) = false := by decide +kernel
  have e6 : (("done" : Str) == ("lacks" : Str)) = false := by decide +kernel
  have no : ∀ (x y : Str) (ds es : List PyData), (x == y) = false → PyData.eqv (.tuple (.str x :: ds)) (.tuple (.str y :: es)) = true → False := fun x y ds es e h => by
    have h : ((x == y) && PyData.eqvAll ds es) = true := h
    rw [e] at h
    cases h
  have two : ∀ a b c d : Nat, ((((a : Nat) : Int) == ((c : Nat) : Int)) && ((((b : Nat) : Int) == ((d : Nat) : Int)) && true)) = true ↔ a = c ∧ b = d := fun a b c d => by
    rw [Bool.and_true, Bool.and_eq_true, beq_iff_eq, beq_iff_eq]
    omega
  cases x with
  | wrong a b =>
    cases y with
    | wrong c d =>
      show (("wrong" : Str) == ("wrong" : Str) && _) = true ↔ _
      rw [beq_self_eq_true, Bool.true_and]
      exact (two a b c d).trans ⟨fun h => by rw [h.1, h.2], fun h => (by cases h; exact ⟨rfl, rfl⟩)⟩
    | lacks c d => exact ⟨fun h => (no _ _ _ _ e1 h).elim, fun h => nomatch h⟩
    | done n => exact ⟨fun h => (no _ _ _ _ e2 h).elim, fun h => nomatch h⟩
  | lacks a b =>
    cases y with
    | wrong c d => exact ⟨fun h => (no _ _ _ _ e3 h).elim, fun h => nomatch h⟩
    | lacks c d =>
      show (("lacks" : Str) == ("lacks" : Str) && _) = true ↔ _
      rw [beq_self_eq_true, Bool.true_and]
      exact (two a b c d).trans ⟨fun h => by rw [h.1, h.2], fun h => (by cases h; exact ⟨rfl, rfl⟩)⟩
    | done n => exact ⟨fun h => (no _ _ _ _ e4 h).elim, fun h => nomatch h⟩
  | done m =>
    cases y with
    | wrong c d => exact ⟨fun h => (no _ _ _ _ e5 h).elim, fun h => nomatch h⟩
    | lacks c d => exact ⟨fun h => (no _ _ _ _ e6 h).elim, fun h => nomatch h⟩
    | done n =>
      show (("done" : Str) == ("done" : Str) && ((m == n) && true)) = true ↔ _
      rw [beq_self_eq_true, Bool.true_and, Bool.and_true, beq_iff_eq]
      exact ⟨fun h => by rw [h], fun h => (by cases h; rfl)⟩⟩
def Vd.nm : Vd → Str
  | .wrong _ _ => "wrong"
  | .lacks _ _ => "lacks"
  | .done _ => "done"
/-- the second as a whole number -/
def Vd.nb : Vd → Int
  | .wrong a _ => a
  | .lacks a _ => a
  | .done n => n
section
variable {K : PySem.W.Frag} {T : List (Addr × Str)} {ρ : List Sl}
end
/-! ## dicts with whole numbers for keys -/
structure DcN (β : Type) where
  l : List (Nat × β)
instance {β : Type} [Enc β] : Enc (DcN β) := ⟨fun d => .dict ((.none, .none) :: d.l.map fun kv => (.int (kv.1 : Int), enc kv.2))⟩
section
variable {β : Type} [Enc β]
def kPut (l : List (Nat × β)) (k : Nat) (v : β) : List (Nat × β) := if (l.any fun kv => decide (kv.1 = k)) = true then l.map (fun kv => if kv.1 = k then (kv.1, v) else kv) else l ++ [(k, v)]
abbrev nK (n : Nat) : Key := .inl (n : Int)
theorem nK_inj {a b : Nat} (h : nK a = nK b) : a = b := by
  have := Sum.inl.inj h
  omega
inductive EntN (K : PySem.W.Frag) (H : Hp) : List (Key × V) → List (Nat × β) → Prop
  | nil : EntN K H [] []
  | cons {k : Nat} {b : β} {v : V} {kvs : List (Key × V)} {l : List (Nat × β)} : Im K H v (enc b) [] → EntN K H kvs l → EntN K H ((nK k, v) :: kvs) ((k, b) :: l)
variable {K : PySem.W.Frag} {H H' : Hp}
theorem EntN.to : ∀ {kvs : List (Key × V)} {l : List (Nat × β)}, EntN K H kvs l → (l.map fun kv => ((.int (kv.1 : Int), enc kv.2) : PyData × PyData)).map Prod.fst = kvs.map (fun kv => kD kv.1) ∧ ImA K H (kvs.map Prod.snd) ((l.map fun kv => ((.int (kv.1 : Int), enc kv.2) : PyData × PyData)).map Prod.snd) []
  | _, _, .nil => ⟨rfl, .nil⟩
  | _, _, .cons h1 h2 => by
    obtain ⟨h3, h4⟩ := EntN.to h2
    refine ⟨?_, .cons h1 h4 rfl⟩
    rw [List.map_cons, List.map_cons, List.map_cons, h3]
    rfl
theorem EntN.stab (ht : ∀ b xs, TupX H b xs → TupX H' b xs) : ∀ {kvs : List (Key × V)} {l : List (Nat × β)}, EntN K H kvs l → EntN K H' kvs l
  | _, _, .nil => .nil
  | _, _, .cons h1 h2 => .cons (Im.stab ht _ _ _ h1 fun b hb => absurd hb List.not_mem_nil) (h2.stab ht)
theorem EntN.any {k : Nat} : ∀ {kvs : List (Key × V)} {l : List (Nat × β)}, EntN K H kvs l → (kvs.any fun kv => decide (kv.1 = nK k)) = l.any fun kv => decide (kv.1 = k)
  | _, _, .nil => rfl
  | _, _, .cons (k := k2) h1 h2 => by
    rw [List.any_cons, List.any_cons, h2.any]
    congr 1
    by_cases e : k2 = k
    · subst e; simp
    · rw [decide_eq_false e, decide_eq_false fun z => e (nK_inj z)]
theorem EntN.put {k : Nat} {v : V} {b : β} (hv : Im K H v (enc b) []) {kvs : List (Key × V)} {l : List (Nat × β)} (h : EntN K H kvs l) : EntN K H (putK kvs (nK k) v) (kPut l k b) := by
  unfold putK kPut
  rw [h.any]
  by_cases c : (l.any fun kv => decide (kv.1 = k)) = true
  · rw [if_pos c, if_pos c]
    clear c
    induction h with
    | nil => exact .nil
    | @cons k2 b2 v2 kvs l h1 h2 ih =>
      rw [List.map_cons, List.map_cons]
      by_cases e : k2 = k
      · subst e
        rw [if_pos rfl, if_pos rfl]
        exact .cons hv ih
      · rw [if_neg e, if_neg fun z => e (nK_inj z)]
        exact .cons h1 ih
  · rw [if_neg c, if_neg c]
    clear c
    induction h with
    | nil => exact .cons hv .nil
    | cons h1 h2 ih => exact .cons h1 ih
theorem EntN.len : ∀ {kvs : List (Key × V)} {l : List (Nat × β)}, EntN K H kvs l → kvs.length = l.length
  | _, _, .nil => rfl
  | _, _, .cons h1 h2 => by rw [List.length_cons, List.length_cons, h2.len]
end
section
variable {K : PySem.W.Frag} {T : List (Addr × Str)} {ρ : List Sl} {Bs : Addr → HO → Prop} {po : Option Addr} {φ : Nat → List Addr} {σ : L2.St} {H H1 : Hp} {n n1 : Nat}
variable {α β : Type} [Enc α] [Enc β]
end
section
variable {K : PySem.W.Frag} {T : List (Addr × Str)} {ρ : List Sl} {C : Option Addr → Prop}
variable {α β R S B : Type} [Enc α] [Enc β] [Enc R] {ρn : S → List Sl} {ρb : B → List Sl}
end
end Bf
namespace Bf
open PySem PySem.Spec PyProof.Rows L2 LamX NdefX
/-! ## calls by names with the last parameter left out -/
end Bf
namespace Bf
open PySem PySem.Spec PyProof.Rows L2 LamX NdefX
/-! ## what dicts hold -/
section
variable {κ β : Type} [Enc κ] [TK κ]
variable {α : Type}
end
theorem rgAt {n i a : Nat} (h : (List.range n)[i]? = some a) : i < n ∧ a = i := by
  obtain ⟨h1, h2⟩ := List.getElem?_eq_some_iff.mp h
  rw [List.getElem_range] at h2
  rw [List.length_range] at h1
  exact ⟨h1, h2.symm⟩
theorem enAt {α : Type} {xs : List α} {i : Nat} {ia : Nat × α} (h : (enW xs)[i]? = some ia) : ia.1 = i ∧ xs[i]? = some ia.2 := by
  unfold enW at h
  rw [List.getElem?_zip_eq_some] at h
  exact ⟨(rgAt h.1).2, h.2⟩
/-! ## a plan judged -/
abbrev TT := T3 Nat Nat Nat
abbrev KF := Nat × Nat → Option Int
def F0 (s m : Nat) : KF := fun k => if k.1 = s ∧ k.2 < m then some (-1) else none
end Bf
namespace Bf
/-! ### who tells has it -/
end Bf
namespace Bf
/-! ## the ferry's plan judged -/
section
variable {q m s t : Nat}
end
end Bf
namespace Bf
/-! ## another way to judge -/
/-- what stands of the first hearings -/
structure FOk (m : Nat) (i : Int) (F : KF) : Prop where
  lt : ∀ k v, F k = some v → v < i
  ge : ∀ k v, F k = some v → -1 ≤ v
  few : ∀ k v, F k = some v → k.2 < m
end Bf
namespace Bf
open PySem
/-! ## what is told is small -/
end Bf
namespace Bf
open PySem PySem.Spec PyProof.Rows L2 LamX NdefX
/-! ## xs.extend(new list), xs.insert(j, x) -/
section
variable {K : PySem.W.Frag} {T : List (Addr × Str)} {ρ : List Sl}
variable {α β : Type} [Enc α] [Enc β]
variable {R B S : Type} [Enc R] {C : Option Addr → Prop}
variable {ρn : S → List Sl} {ρb : B → List Sl}
end
end Bf
namespace Bf
open PySem PySem.Spec PyProof.Rows L2 LamX NdefX
/-! ## lists of lists -/
section
variable {K : PySem.W.Frag} {H H' : Hp} {α : Type} [Enc α]
inductive NLs (K : PySem.W.Frag) (H : Hp) {α : Type} [Enc α] : List Addr → List (Lst α) → Prop
  | nil : NLs K H [] []
  | cons {b : Addr} {bs : List Addr} {x : Lst α} {xs : List (Lst α)} {ws : List V} : H b = some (.lst ws) → ImA K H ws (x.l.map enc) [] → NLs K H bs xs → NLs K H (b :: bs) (x :: xs)
theorem NLs.len : ∀ {bs : List Addr} {xs : List (Lst α)}, NLs K H bs xs → bs.length = xs.length
  | _, _, .nil => rfl
  | _, _, .cons _ _ h => by rw [List.length_cons, List.length_cons, h.len]
theorem NLs.get : ∀ {bs : List Addr} {xs : List (Lst α)} {j : Nat} {x : Lst α}, NLs K H bs xs → xs[j]? = some x → ∃ b ws, bs[j]? = some b ∧ H b = some (.lst ws) ∧ ImA K H ws (x.l.map enc) []
  | _, _, 0, _, .cons h1 h2 h3, e => by cases e; exact ⟨_, _, rfl, h1, h2⟩
  | _, _, j + 1, _, .cons h1 h2 h3, e => h3.get (j := j) e
  | _, _, 0, _, .nil, e => by cases e
  | _, _, j + 1, _, .nil, e => by cases e
theorem NLs.at : ∀ {bs : List Addr} {xs : List (Lst α)} {j : Nat} {b : Addr}, NLs K H bs xs → bs[j]? = some b → ∃ x ws, xs[j]? = some x ∧ H b = some (.lst ws) ∧ ImA K H ws (x.l.map enc) []
  | _, _, 0, _, .cons h1 h2 h3, e => by cases e; exact ⟨_, _, rfl, h1, h2⟩
  | _, _, j + 1, _, .cons h1 h2 h3, e => h3.at (j := j) e
  | _, _, 0, _, .nil, e => by cases e
  | _, _, j + 1, _, .nil, e => by cases e
theorem NLs.stab (ht : ∀ b l, TupX H b l → TupX H' b l) : ∀ {bs : List Addr} {xs : List (Lst α)}, NLs K H bs xs → (∀ b ∈ bs, ∀ l, H b = some (.lst l) → H' b = some (.lst l)) → NLs K H' bs xs
  | _, _, .nil, _ => .nil
  | _, _, .cons h1 h2 h3, h => .cons (h _ List.mem_cons_self _ h1) (ImA.stab ht _ _ _ h2 fun b hb => absurd hb List.not_mem_nil) (h3.stab ht fun b hb => h b (List.mem_cons_of_mem _ hb))
theorem NLs.set : ∀ {bs : List Addr} {xs : List (Lst α)} {j : Nat} {b : Addr} {x : Lst α} {ws : List V}, NLs K H bs xs → H b = some (.lst ws) → ImA K H ws (x.l.map enc) [] → NLs K H (bs.set j b) (xs.set j x)
  | _, _, _, _, _, _, .nil, _, _ => .nil
  | _, _, 0, _, _, _, .cons h1 h2 h3, e1, e2 => .cons e1 e2 h3
  | _, _, j + 1, _, _, _, .cons h1 h2 h3, e1, e2 => .cons h1 h2 (h3.set e1 e2)
/-- one of them changes -/
theorem NLs.put {b : Addr} {x : Lst α} {ws : List V} (ht : ∀ c l, TupX H c l → TupX (upd H b (.lst ws)) c l) (e2 : ImA K (upd H b (.lst ws)) ws (x.l.map enc) []) : ∀ {bs : List Addr} {xs : List (Lst α)} {j : Nat}, NLs K H bs xs → bs.Nodup → bs[j]? = some b → NLs K (upd H b (.lst ws)) bs (xs.set j x)
  | _, _, 0, .cons h1 h2 h3, nd, e => by
    cases e
    have nd := List.nodup_cons.mp nd
    exact .cons upd_same e2 (h3.stab ht fun c hc l z => by rw [upd_ne (fun q => nd.1 (by rw [← q]; exact hc))]; exact z)
  | _, _, j + 1, .cons (b := c) (bs := cs) h1 h2 h3, nd, e => by
    have nd := List.nodup_cons.mp nd
    have e : cs[j]? = some b := e
    have hb := List.mem_of_getElem? e
    exact .cons (by rw [upd_ne (fun q => nd.1 (by rw [q]; exact hb))]; exact h1) (ImA.stab ht _ _ _ h2 fun b hb => absurd hb List.not_mem_nil) (h3.put ht e2 nd.2 e)
  | _, _, 0, .nil, _, e => by cases e
  | _, _, j + 1, .nil, _, e => by cases e
end
section
variable {K : PySem.W.Frag} {T : List (Addr × Str)} {Bs : Addr → HO → Prop} {po : Option Addr} {ρ : List Sl} {φ : Nat → List Addr} {σ : L2.St} {H H' : Hp} {n n' : Nat}
end
section
variable {K : PySem.W.Frag} {T : List (Addr × Str)} {ρ : List Sl}
variable {α β γ : Type} [Enc α] [Enc β] [Enc γ]
end
end Bf
namespace Bf
open PySem PySem.Spec PyProof.Rows L2 LamX NdefX
section
variable {K : PySem.W.Frag} {T : List (Addr × Str)} {ρ : List Sl} {C : Option Addr → Prop}
variable {α β γ δ R S B : Type} [Enc α] [Enc β] [Enc γ] [Enc R] {ρn : S → List Sl} {ρb : B → List Sl}
/-! ### a list in a list of lists -/
/-! ### max, sorted -/
/-! ### pop, remove -/
end
end Bf
namespace Bf
open PySem PySem.Spec PyProof.Rows L2 LamX NdefX
section
variable {K : PySem.W.Frag} {T : List (Addr × Str)} {ρ : List Sl} {C : Option Addr → Prop}
variable {α δ R S B : Type} [Enc α] [Enc R] {ρn : S → List Sl} {ρb : B → List Sl}
end
end Bf
namespace Bf
open PySem PySem.Spec PyProof.Rows L2 LamX NdefX
section
variable {X : Cx} {kx vx tg iter : Expr} {ifs : List Expr} {scope : Scope} {own : List (Str × Nat)} {pos : Pos} {wi : TI} {g : TG} {tt : L2.TT} {tk tv : TE}
end
/-! ### a comprehension that makes a dict with whole numbers for keys -/
section
variable {α β : Type} [Enc β]
end
section
variable {K : PySem.W.Frag} {T : List (Addr × Str)} {ρ : List Sl}
variable {α β : Type} [Enc α] [Enc β]
end
/-! ### sorted(dict with whole numbers for keys) -/
open SrtO in
section
variable {K : PySem.W.Frag} {T : List (Addr × Str)} {ρ : List Sl}
variable {α β γ : Type} [Enc α] [Enc β]
/-! ### a truth in a list of truths -/
/-! ### a def called with a pot that is new -/
end
end Bf
namespace Bf
open PySem PySem.Spec PyProof.Rows L2 LamX NdefX
/-! ## loops whose items are lists that others hold, too -/
section
variable {K : PySem.W.Frag} {T : List (Addr × Str)} {ρ : List Sl} {Bs : Addr → HO → Prop} {po : Option Addr} {φ : Nat → List Addr} {σ : L2.St} {H H1 : Hp} {n n1 : Nat}
structure ItOkS (K : PySem.W.Frag) (J : It) (H1 : Hp) {α : Type} [Enc α] (xs : List α) (fi : List Addr) : Prop where
  ex : ∃ (G : Hp → Prop) (Y : Nat → Hp → V → Hp → Prop), Walk J xs.length G Y ∧ G H1 ∧ (∀ H H' : Hp, (∀ b ∈ fi, ∀ o, H b = some o → Mtb o → H' b = some o) → (∀ b l, TupX H b l → TupX H' b l) → G H → G H') ∧
    ∀ i H x H', i < xs.length → G H → Y i H x H' → ∃ a fa, xs[i]? = some a ∧ Same H H' ∧ Im K H' x (enc a) fa ∧ ∀ b ∈ fa, b ∈ fi
  mtb : ∀ b ∈ fi, ∃ o, H1 b = some o ∧ Mtb o
variable {α : Type} [Enc α]
end
section
variable {K : PySem.W.Frag} {T : List (Addr × Str)} {ρ : List Sl} {C : Option Addr → Prop}
variable {α β γ R S S2 B : Type} [Enc α] [Enc R] {ρn : S → List Sl} {ρb : B → List Sl}
end
end Bf
namespace Bf
open PySem PySem.Spec PyProof.Rows L2 LamX NdefX
section
variable {K : PySem.W.Frag} {T : List (Addr × Str)} {ρ : List Sl} {C : Option Addr → Prop}
variable {α β γ R S S2 B : Type} [Enc α] [Enc β] [Enc R] {ρn : S → List Sl} {ρb : B → List Sl}
end
end Bf
namespace Bf
open PySem PySem.Spec PyProof.Rows L2 LamX NdefX
section
variable {K : PySem.W.Frag} {T : List (Addr × Str)} {ρ : List Sl} {α β : Type} [Enc α] [Enc β]
end
end Bf
namespace Bf
open PySem PySem.Spec PyProof.Rows L2 LamX NdefX
section
variable {K : PySem.W.Frag} {T : List (Addr × Str)} {ρ : List Sl} {α : Type} [Enc α]
variable {β : Type} [Enc β]
end
end Bf
namespace Bf
open PySem PySem.Spec PyProof.Rows L2 LamX NdefX
/-! ## objects: data by fields -/
def obF (ns : List Str) (ds : List PyData) : List (PyData × PyData) := List.zipWith (fun n d => (.str n, d)) ns ds
/-- mk: .bool true, or the object's own place -/
def obD (mk : PyData) (cn : Str) (ns : List Str) (ds : List PyData) : PyData := .dict ((mk, .str cn) :: obF ns ds)
theorem obF_fst : ∀ {ns : List Str} {ds : List PyData}, ns.length = ds.length → (obF ns ds).map Prod.fst = ns.map .str
  | [], [], _ => rfl
  | n :: ns, d :: ds, h => by
    show (PyData.str n) :: (obF ns ds).map Prod.fst = _
    rw [obF_fst (Nat.succ.inj h)]
    rfl
theorem obF_snd : ∀ {ns : List Str} {ds : List PyData}, ns.length = ds.length → (obF ns ds).map Prod.snd = ds
  | [], [], _ => rfl
  | n :: ns, d :: ds, h => by
    show d :: (obF ns ds).map Prod.snd = _
    rw [obF_snd (Nat.succ.inj h)]
theorem str_inj : ∀ {ns ms : List Str}, ns.map PyData.str = ms.map PyData.str → ns = ms
  | [], [], _ => rfl
  | [], _ :: _, h => by cases h
  | _ :: _, [], h => by cases h
  | a :: ns, b :: ms, h => by
    rw [List.map_cons, List.map_cons, List.cons.injEq] at h
    rw [PyData.str.inj h.1, str_inj h.2]
section
variable {K : PySem.W.Frag} {H H' : Hp}
/-- an object as it stands -/
structure ObAt (K : PySem.W.Frag) (H : Hp) (a : Addr) (mk : PyData) (cn : Str) (ns : List Str) (ds : List PyData) (dx : Addr) (fs : List (Str × V)) (fp : List Addr) : Prop where
  mkr : mk = .bool true ∨ mk = .int (a : Int)
  at_ : H a = some (.ins (He.ga K cn) dx fs)
  nm : fs.map Prod.fst = ns
  it : ImA K H (fs.map Prod.snd) ds fp
theorem im_ob {v : V} {mk : PyData} {cn : Str} {ns : List Str} {ds : List PyData} {fq : List Addr} (h : Im K H v (obD mk cn ns ds) fq) (hm : mk = .bool true ∨ ∃ a : Addr, mk = .int (a : Int)) (hl : ns.length = ds.length) : ∃ a dx fs fp, v = .ref a ∧ ObAt K H a mk cn ns ds dx fs fp ∧ fq = a :: fp := by
  have h : Im K H v (.dict ((mk, .str cn) :: obF ns ds)) fq := h
  generalize hp : ((mk, PyData.str cn) :: obF ns ds) = ps at h
  cases h with
  | dicK e e1 e2 hA q =>
    have := congrArg Prod.fst (List.cons.inj hp).1
    rcases hm with rfl | ⟨a, rfl⟩
    · cases this
    · cases this
  | any _ =>
    have := congrArg Prod.fst (List.cons.inj hp).1
    rcases hm with rfl | ⟨a, rfl⟩
    · cases this
    · cases this
  | err _ _ _ =>
    have := congrArg Prod.fst (List.cons.inj hp).1
    rcases hm with rfl | ⟨a, rfl⟩
    · cases this
    · cases this
  | err0 _ =>
    have := congrArg Prod.fst (List.cons.inj hp).1
    rcases hm with rfl | ⟨a, rfl⟩
    · cases this
    · cases this
  | dicT e e1 e2 hA q =>
    subst hp
    rename_i kvs _ _
    cases kvs with
    | nil => cases e1
    | cons x xs =>
      have := (List.cons.inj e1).1
      rcases hm with rfl | ⟨a, rfl⟩
      · cases this
      · cases this
  | pin z =>
    have := congrArg Prod.snd (List.cons.inj hp).1
    dsimp only at this
    subst this
    cases z
  | ins em e e1 e2 hA q =>
    obtain ⟨h1, rfl⟩ := List.cons.inj hp
    cases h1
    rw [obF_fst hl] at e1
    rw [← e2, obF_snd hl] at hA
    refine ⟨_, _, _, _, rfl, ⟨em, e, ?_, hA⟩, q⟩
    refine str_inj ?_
    rw [List.map_map]
    exact e1.symm
theorem ObAt.im {a : Addr} {mk : PyData} {cn : Str} {ns : List Str} {ds : List PyData} {dx : Addr} {fs : List (Str × V)} {fp : List Addr} (h : ObAt K H a mk cn ns ds dx fs fp) (hl : ns.length = ds.length) : Im K H (.ref a) (obD mk cn ns ds) (a :: fp) := by
  refine .ins h.mkr h.at_ ?_ (obF_snd hl) h.it rfl
  rw [obF_fst hl, ← h.nm, List.map_map]
  rfl
theorem ObAt.as {a : Addr} {mk mk' : PyData} {cn : Str} {ns : List Str} {ds : List PyData} {dx : Addr} {fs : List (Str × V)} {fp : List Addr} (h : ObAt K H a mk cn ns ds dx fs fp) (hm : mk' = .bool true ∨ mk' = .int (a : Int)) : ObAt K H a mk' cn ns ds dx fs fp := ⟨hm, h.at_, h.nm, h.it⟩
/-! ### into parts -/
theorem ImA.mtb : ∀ {ds : List PyData} {vs : List V} {fp : List Addr}, ImA K H vs ds fp → ∀ b ∈ fp, ∃ o, H b = some o ∧ Mtb o
  | [], _, _, h => by cases h; exact fun b hb => absurd hb List.not_mem_nil
  | d :: ds, _, _, h => by
    cases h with
    | cons a b q =>
      subst q
      intro x hx
      rcases List.mem_append.mp hx with hx | hx
      · exact Im.mtb _ _ _ a x hx
      · exact ImA.mtb b x hx
theorem ImA.focus : ∀ {ds : List PyData} {vs : List V} {fp : List Addr} {j : Nat} {d : PyData}, ImA K H vs ds fp → fp.Nodup → ds[j]? = some d → ∃ w fj, vs[j]? = some w ∧ Im K H w d fj ∧ fj.Nodup ∧ (∀ b ∈ fj, b ∈ fp) ∧
    ∀ (H' : Hp) (w' : V) (d' : PyData) (fj' : List Addr), (∀ b xs, TupX H b xs → TupX H' b xs) → (∀ b ∈ fp, b ∉ fj → ∀ o, H b = some o → Mtb o → H' b = some o) → Im K H' w' d' fj' → fj'.Nodup → (∀ b ∈ fj', b ∈ fj ∨ b ∉ fp) → ∃ fp', ImA K H' (vs.set j w') (ds.set j d') fp' ∧ fp'.Nodup ∧ ∀ b ∈ fp', (b ∈ fp ∧ b ∉ fj) ∨ b ∈ fj'
  | [], _, _, _, _, _, _, e => by cases e
  | d0 :: ds, _, _, 0, d, h, nd, e => by
    cases h with
    | cons a b q =>
      rename_i v vs f1 f2
      subst q
      obtain rfl : d0 = d := Option.some.inj e
      obtain ⟨n1, n2, n3⟩ := List.nodup_append.mp nd
      refine ⟨v, f1, rfl, a, n1, fun x hx => List.mem_append_left _ hx, fun H' w' d' fj' ht hk im nd' hf => ?_⟩
      have nin : ∀ x ∈ f2, x ∉ f1 := fun x hx z => n3 x z x hx rfl
      refine ⟨fj' ++ f2, .cons im (ImA.stab ht _ _ _ b fun x hx o => hk x (List.mem_append_right _ hx) (nin x hx) o) rfl, List.nodup_append.mpr ⟨nd', n2, fun x hx y hy exy => ?_⟩, fun x hx => ?_⟩
      · subst exy
        rcases hf x hx with z | z
        · exact nin x hy z
        · exact z (List.mem_append_right _ hy)
      · rcases List.mem_append.mp hx with hx | hx
        · exact .inr hx
        · exact .inl ⟨List.mem_append_right _ hx, nin x hx⟩
  | d0 :: ds, _, _, j + 1, d, h, nd, e => by
    cases h with
    | cons a b q =>
      rename_i v vs f1 f2
      subst q
      obtain ⟨n1, n2, n3⟩ := List.nodup_append.mp nd
      obtain ⟨w, fj, e1, e2, e3, e4, e5⟩ := ImA.focus (j := j) (d := d) b n2 e
      have nin : ∀ x ∈ f1, x ∉ fj := fun x hx z => n3 x hx x (e4 x z) rfl
      refine ⟨w, fj, e1, e2, e3, fun x hx => List.mem_append_right _ (e4 x hx), fun H' w' d' fj' ht hk im nd' hf => ?_⟩
      obtain ⟨fp', g1, g2, g3⟩ := e5 H' w' d' fj' ht (fun x hx => hk x (List.mem_append_right _ hx)) im nd' fun x hx => (hf x hx).imp id fun z y => z (List.mem_append_right _ y)
      refine ⟨f1 ++ fp', .cons (Im.stab ht _ _ _ a fun x hx o => hk x (List.mem_append_left _ hx) (nin x hx) o) g1 rfl, List.nodup_append.mpr ⟨n1, g2, fun x hx y hy exy => ?_⟩, fun x hx => ?_⟩
      · subst exy
        rcases g3 x hy with z | z
        · exact n3 x hx x z.1 rfl
        · rcases hf x z with z | z
          · exact nin x hx z
          · exact z (List.mem_append_left _ hx)
      · rcases List.mem_append.mp hx with hx | hx
        · exact .inl ⟨List.mem_append_left _ hx, nin x hx⟩
        · exact (g3 x hx).imp (fun z => ⟨List.mem_append_right _ z.1, z.2⟩) id
/-- a list's item -/
theorem Im.focusL {v : V} {ds : List PyData} {fp : List Addr} {j : Nat} {d : PyData} (h : Im K H v (.list ds) fp) (nd : fp.Nodup) (e : ds[j]? = some d) : ∃ a vs w fj, v = .ref a ∧ H a = some (.lst vs) ∧ a ∈ fp ∧ vs.length = ds.length ∧ vs[j]? = some w ∧ Im K H w d fj ∧ fj.Nodup ∧ a ∉ fj ∧ (∀ b ∈ fj, b ∈ fp) ∧
    ∀ (H' : Hp) (w' : V) (d' : PyData) (fj' : List Addr), (∀ b xs, TupX H b xs → TupX H' b xs) → (∀ b ∈ fp, b ≠ a → b ∉ fj → ∀ o, H b = some o → Mtb o → H' b = some o) → H' a = some (.lst (vs.set j w')) → Im K H' w' d' fj' → fj'.Nodup → (∀ b ∈ fj', b ∈ fj ∨ b ∉ fp) → ∃ fp', Im K H' v (.list (ds.set j d')) fp' ∧ fp'.Nodup ∧ ∀ b ∈ fp', b ∈ fp ∨ b ∈ fj' := by
  cases h with
  | lst e0 hA q =>
    rename_i a vs fr
    subst q
    obtain ⟨n1, n2⟩ := List.nodup_cons.mp nd
    obtain ⟨w, fj, e1, e2, e3, e4, e5⟩ := hA.focus n2 e
    refine ⟨a, vs, w, fj, rfl, e0, List.mem_cons_self, hA.len, e1, e2, e3, fun z => n1 (e4 a z), fun b hb => List.mem_cons_of_mem _ (e4 b hb), fun H' w' d' fj' ht hk ha im nd' hf => ?_⟩
    obtain ⟨fp', g1, g2, g3⟩ := e5 H' w' d' fj' ht (fun x hx => hk x (List.mem_cons_of_mem _ hx) fun z => n1 (z ▸ hx)) im nd' fun x hx => (hf x hx).imp id fun z y => z (List.mem_cons_of_mem _ y)
    refine ⟨a :: fp', .lst ha g1 rfl, List.nodup_cons.mpr ⟨fun z => ?_, g2⟩, fun b hb => ?_⟩
    · rcases g3 a z with z | z
      · exact n1 z.1
      · rcases hf a z with z | z
        · exact n1 (e4 a z)
        · exact z List.mem_cons_self
    · rcases List.mem_cons.mp hb with rfl | hb
      · exact .inl List.mem_cons_self
      · exact (g3 b hb).imp (fun z => List.mem_cons_of_mem _ z.1) id
/-- an object's field -/
theorem ObAt.focus {a : Addr} {mk : PyData} {cn : Str} {ns : List Str} {ds : List PyData} {dx : Addr} {fs : List (Str × V)} {fp : List Addr} {j : Nat} {d : PyData} (h : ObAt K H a mk cn ns ds dx fs fp) (nd : (a :: fp).Nodup) (e : ds[j]? = some d) : ∃ w fj, (fs.map Prod.snd)[j]? = some w ∧ Im K H w d fj ∧ fj.Nodup ∧ a ∉ fj ∧ (∀ b ∈ fj, b ∈ fp) ∧
    ∀ (H' : Hp) (w' : V) (d' : PyData) (fj' : List Addr) (fs' : List (Str × V)), (∀ b xs, TupX H b xs → TupX H' b xs) → (∀ b ∈ fp, b ∉ fj → ∀ o, H b = some o → Mtb o → H' b = some o) → H' a = some (.ins (He.ga K cn) dx fs') → fs'.map Prod.fst = ns → fs'.map Prod.snd = (fs.map Prod.snd).set j w' → Im K H' w' d' fj' → fj'.Nodup → (∀ b ∈ fj', b ∈ fj ∨ b ∉ a :: fp) → ∃ fp', ObAt K H' a mk cn ns (ds.set j d') dx fs' fp' ∧ (a :: fp').Nodup ∧ ∀ b ∈ fp', b ∈ fp ∨ b ∈ fj' := by
  obtain ⟨n1, n2⟩ := List.nodup_cons.mp nd
  obtain ⟨w, fj, e1, e2, e3, e4, e5⟩ := h.it.focus n2 e
  refine ⟨w, fj, e1, e2, e3, fun z => n1 (e4 a z), e4, fun H' w' d' fj' fs' ht hk ha hn hs im nd' hf => ?_⟩
  obtain ⟨fp', g1, g2, g3⟩ := e5 H' w' d' fj' ht hk im nd' fun x hx => (hf x hx).imp id fun z y => z (List.mem_cons_of_mem _ y)
  refine ⟨fp', ⟨h.mkr, ha, hn, by rw [hs]; exact g1⟩, List.nodup_cons.mpr ⟨fun z => ?_, g2⟩, fun b hb => (g3 b hb).imp (fun z => z.1) id⟩
  rcases g3 a z with z | z
  · exact n1 z.1
  · rcases hf a z with z | z
    · exact n1 (e4 a z)
    · exact z List.mem_cons_self
end
end Bf
namespace Bf
open PySem PySem.Spec PyProof.Rows L2 LamX NdefX
/-- data that is an object -/
class Ob (α : Type) [Enc α] where
  cn : Str
  ns : List Str
  fl : α → List PyData
  en : ∀ a, enc a = obD (.bool true) cn ns (fl a)
  ln : ∀ a, ns.length = (fl a).length
/-- what a class is -/
structure ClsT (K : PySem.W.Frag) (cn : Str) (ns : List Str) : Prop where
  cl : Cls K (He.ga K cn)
  na : ∀ f ∈ ns, NoAttr K (He.ga K cn) f
section
variable {K : PySem.W.Frag} {T : List (Addr × Str)} {ρ : List Sl} {α β : Type} [Enc α] [Enc β]
/-! ### what is only read, and stands -/
/-! ### items of lists -/
/-! ### going through what is only read -/
end
/-! ### names for what is only read -/
section
variable {K : PySem.W.Frag} {T : List (Addr × Str)} {ρ : List Sl} {C : Option Addr → Prop}
variable {α β R S B : Type} [Enc α] [Enc β] [Enc R] {ρn : S → List Sl} {ρb : B → List Sl}
/-! ### a new field, a field anew -/
theorem noTbl {H : Hp} {c : Addr} {u u' : HO} (e : H c = some u) (hm : Mtb u) : ∀ b xs, TupX H b xs → TupX (upd H c u') b xs := fun b xs z => by
  unfold TupX at z ⊢
  rw [upd_ne (fun q => by rw [q, e] at z; obtain rfl := Option.some.inj z; exact xs.nm hm)]
  exact z
end
end Bf
namespace Bf
open PySem PySem.Spec PyProof.Rows L2 LamX NdefX
/-! ## a part of what is one's own, changed -/
theorem set_self {α : Type} : ∀ {xs : List α} {j : Nat} {x : α}, xs[j]? = some x → xs.set j x = xs
  | y :: ys, 0, x, h => by cases h; rfl
  | y :: ys, j + 1, x, h => by
    have h : ys[j]? = some x := h
    show y :: ys.set j x = _
    rw [set_self h]
structure SubA (K : PySem.W.Frag) (H : Hp) (v : V) (fp : List Addr) (w : V) (dc : PyData) (fc : List Addr) (ctx : PyData → PyData) : Prop where
  im : Im K H w dc fc
  nd : fc.Nodup
  sub : ∀ b ∈ fc, b ∈ fp
  put : ∀ (H' : Hp) (d' : PyData) (fc' : List Addr), (∀ b xs, TupX H b xs → TupX H' b xs) → (∀ b ∈ fp, b ∉ fc → ∀ o, H b = some o → Mtb o → H' b = some o) → Im K H' w d' fc' → fc'.Nodup → (∀ b ∈ fc', b ∈ fc ∨ b ∉ fp) → ∃ fp', Im K H' v (ctx d') fp' ∧ fp'.Nodup ∧ ∀ b ∈ fp', b ∈ fp ∨ b ∈ fc'
section
variable {K : PySem.W.Frag} {H H1 : Hp} {v w : V} {fp fc : List Addr} {dc : PyData} {ctx : PyData → PyData} {po : Option Addr}
theorem SubA.refl (h : Im K H v dc fp) (nd : fp.Nodup) : SubA K H v fp v dc fp id := ⟨h, nd, fun b hb => hb, fun H' d' fc' _ _ im nd' _ => ⟨fc', im, nd', fun b hb => .inr hb⟩⟩
theorem SubA.af (h : SubA K H v fp w dc fc ctx) (hp : ∀ b ∈ fp, po ≠ some b) (f : Fr K po H H1) (hm : ∀ b ∈ fp, ∃ o, H b = some o ∧ Mtb o) : SubA K H1 v fp w dc fc ctx := ⟨h.im.af (fun b hb => hp b (h.sub b hb)) f, h.nd, h.sub, fun H' d' fc' ht hk im nd hf => h.put H' d' fc' (fun b xs z => ht b xs (f.tup b xs z)) (fun b hb hn o e m => hk b hb hn o (f.keep b o (hp b hb) e m.tbl) m) im nd hf⟩
theorem SubA.item {ds : List PyData} {j : Nat} {d : PyData} (h : SubA K H v fp w (.list ds) fc ctx) (e : ds[j]? = some d) : ∃ a vs u fj, w = .ref a ∧ H a = some (.lst vs) ∧ vs[j]? = some u ∧ SubA K H v fp u d fj fun x => ctx (.list (ds.set j x)) := by
  obtain ⟨a, vs, u, fj, rfl, e1, e2, e3, e4, e5, e6, e7, e8, e9⟩ := h.im.focusL h.nd e
  refine ⟨a, vs, u, fj, rfl, e1, e4, e5, e6, fun b hb => h.sub b (e8 b hb), fun H' d' fc' ht hk im nd hf => ?_⟩
  have afp := h.sub a e2
  have ha := hk a afp e7 _ e1 trivial
  obtain ⟨fp', g1, g2, g3⟩ := e9 H' u d' fc' ht (fun b hb _ hn => hk b (h.sub b hb) hn) (by rw [set_self e4]; exact ha) im nd fun b hb => (hf b hb).imp id fun z y => z (h.sub b y)
  obtain ⟨fq, k1, k2, k3⟩ := h.put H' _ fp' ht (fun b hb hn => hk b hb fun z => hn (e8 b z)) g1 g2 fun b hb => by
    rcases g3 b hb with z | z
    · exact .inl z
    · rcases hf b z with y | y
      · exact .inl (e8 b y)
      · exact .inr y
  exact ⟨fq, k1, k2, fun b hb => by
    rcases k3 b hb with z | z
    · exact .inl z
    · rcases g3 b z with y | y
      · exact .inl (h.sub b y)
      · exact .inr y⟩
theorem SubA.fld {mk : PyData} {cn : Str} {ns : List Str} {ds : List PyData} {j : Nat} {d : PyData} (h : SubA K H v fp w (obD mk cn ns ds) fc ctx) (hm : mk = .bool true ∨ ∃ a : Addr, mk = .int (a : Int)) (hl : ns.length = ds.length) (e : ds[j]? = some d) : ∃ a dx fs u fj, w = .ref a ∧ H a = some (.ins (He.ga K cn) dx fs) ∧ fs.map Prod.fst = ns ∧ (fs.map Prod.snd)[j]? = some u ∧ SubA K H v fp u d fj fun x => ctx (obD mk cn ns (ds.set j x)) := by
  obtain ⟨a, dx, fs, fq, rfl, o, ef⟩ := im_ob h.im hm hl
  have hnd := h.nd
  rw [ef] at hnd
  obtain ⟨u, fj, e1, e2, e3, e4, e5, e6⟩ := o.focus hnd e
  have inc : ∀ b ∈ fj, b ∈ fc := fun b hb => by rw [ef]; exact List.mem_cons_of_mem _ (e5 b hb)
  have afc : a ∈ fc := by rw [ef]; exact List.mem_cons_self
  refine ⟨a, dx, fs, u, fj, rfl, o.at_, o.nm, e1, e2, e3, fun b hb => h.sub b (inc b hb), fun H' d' fc' ht hk im nd hf => ?_⟩
  have ha := hk a (h.sub a afc) e4 _ o.at_ trivial
  obtain ⟨fp', g1, g2, g3⟩ := e6 H' u d' fc' fs ht (fun b hb hn => hk b (h.sub b (by rw [ef]; exact List.mem_cons_of_mem _ hb)) hn) ha o.nm (by rw [set_self e1]) im nd fun b hb => (hf b hb).imp id fun z y => z (h.sub b (by rw [ef]; exact y))
  obtain ⟨fq', k1, k2, k3⟩ := h.put H' _ (a :: fp') ht (fun b hb hn => hk b hb fun z => hn (inc b z)) (g1.im (by rw [List.length_set]; exact hl)) g2 fun b hb => by
    rcases List.mem_cons.mp hb with rfl | hb
    · exact .inl afc
    rcases g3 b hb with z | z
    · exact .inl (by rw [ef]; exact List.mem_cons_of_mem _ z)
    · rcases hf b z with y | y
      · exact .inl (inc b y)
      · exact .inr y
  exact ⟨fq', k1, k2, fun b hb => by
    rcases k3 b hb with z | z
    · exact .inl z
    · rcases List.mem_cons.mp z with rfl | z
      · exact .inl (h.sub _ afc)
      rcases g3 b z with y | y
      · exact .inl (h.sub b (by rw [ef]; exact List.mem_cons_of_mem _ y))
      · exact .inr y⟩
end
/-! ### paths -/
section
variable {K : PySem.W.Frag} {T : List (Addr × Str)} {ρ : List Sl} {α β γ : Type} [Enc β] [Enc γ]
end
/-! ### what is done there -/
section
variable {K : PySem.W.Frag} {T : List (Addr × Str)} {ρ : List Sl} {C : Option Addr → Prop}
variable {α β R S B : Type} [Enc β] [Enc R] {ρn : S → List Sl} {ρb : B → List Sl}
end
end Bf
namespace Bf
open PySem PySem.Spec PyProof.Rows L2 LamX NdefX
/-! ## methods that change their object -/
/-- an object without fields yet -/
structure Fresh (cn : Str) where
instance {cn : Str} : Enc (Fresh cn) := ⟨fun _ => obD (.bool true) cn [] []⟩
instance {cn : Str} : Ob (Fresh cn) where
  cn := cn
  ns := []
  fl := fun _ => []
  en := fun _ => rfl
  ln := fun _ => rfl
section
variable {K : PySem.W.Frag} {T : List (Addr × Str)} {Bs : Addr → HO → Prop} {po : Option Addr} {ρ : List Sl} {φ : Nat → List Addr} {σ : L2.St} {H H' : Hp} {n : Nat}
end
section
variable {K : PySem.W.Frag} {T : List (Addr × Str)} {ρ : List Sl} {i : Nat} {d : PyData} {α : Type} [Enc α]
end
section
variable {K : PySem.W.Frag} {T : List (Addr × Str)} {ρ : List Sl}
end
end Bf
namespace Bf
open PySem PySem.Spec PyProof.Rows L2 LamX NdefX
/-! ## defs of classes -/
theorem FunQ.go {P : Program} {w : World} {K : PySem.W.Frag} {mg : Str → Option Value} {base : Heap} {x qual : Str} {st : Stmt} {dvs : List V} {kws : List (Str × V)} {f : Addr} {fd : FuncData} {N ps : List Str} {k : Nat} {sp : Sp} (F : FunD K x qual (defArgs st) (defBody st) (defScope st) dvs kws f fd) (S : FnScope N ps (defScope st)) (len : ∀ vs H Q E, sp vs H Q E → vs.length = ps.length)
    (hbody : ∀ (cdv : Value) (A : Around) (outer : List Env) (s : Shared) (H : Hp) (vs : List V) (Q : VK) (E : XK), Room k (A.deeper (envOfC qual (defScope st) s.heap.objs.size f cdv)) → sp vs H Q E →
      ∃ t, PSs (cxOf CX0 P w K mg base N qual (defScope st) f cdv A outer s H E).nox (defBody st) t ∧ t { nx := fun _ H' => Q .non H', rt := Q } (start N vs) H) : FnOk P w K mg base CX0 (k + 1) f fd ps sp :=
  FunD.ok F S len fun cdv A outer s H vs Q E hr hs => let ⟨t, h, q⟩ := hbody cdv A outer s H vs Q E hr hs; ⟨t, h.nox, q⟩
/-- a method -/
structure CalM (P : Program) (w : World) (K : PySem.W.Frag) (mg : Str → Option Value) (base : Heap) (k : Nat) (cn x : Str) (f : Addr) (fd : FuncData) (ps : List Str) (sp : Sp) : Prop where
  G : FnOk P w K mg base CX0 k f fd ps sp
  m : Meth K (He.ga K cn) x f
  b : Binds K fd ps []
/-- an __init__ -/
structure CalI (P : Program) (w : World) (K : PySem.W.Frag) (mg : Str → Option Value) (base : Heap) (k : Nat) (cn : Str) (f : Addr) (fd : FuncData) (ps : List Str) (sp : Sp) : Prop where
  G : FnOk P w K mg base CX0 k f fd ps sp
  m : Mk K (He.ga K cn) f
  g : mg cn = some (.ref (He.ga K cn))
section
variable {X : Cx} {CX : CXT} {C f : Addr} {fd : FuncData} {ps : List Str} {sp : Sp} {E : XK} {n : Nat}
end
section
variable {K : PySem.W.Frag} {T : List (Addr × Str)} {ρ : List Sl}
end
end Bf
namespace Bf
open PySem PySem.Spec PyProof.Rows L2 LamX NdefX
section
variable {K : PySem.W.Frag} {T : List (Addr × Str)} {ρ : List Sl} {C : Option Addr → Prop}
variable {α β R S B : Type} [Enc β] [Enc R] {ρn : S → List Sl} {ρb : B → List Sl}
end
end Bf
namespace Bf
open PySem PySem.Spec PyProof.Rows L2 LamX NdefX
section
variable {K : PySem.W.Frag}
end
end Bf
namespace Bf
open PySem PySem.Spec PyProof.Rows L2 LamX NdefX
/-! ## dicts that an expression tells: fields of objects -/
section
variable {K : PySem.W.Frag} {T : List (Addr × Str)} {ρ : List Sl}
variable {κ α β : Type} [Enc κ] [Enc α] [Enc β] [TK κ]
end
def kDel {β : Type} (l : List (Nat × β)) (k : Nat) : List (Nat × β) := l.filter fun kv => decide (kv.1 ≠ k)
def dDel {κ β : Type} [DecidableEq κ] (l : List (κ × β)) (k : κ) : List (κ × β) := l.filter fun kv => decide (kv.1 ≠ k)
section
variable {K : PySem.W.Frag} {H : Hp} {κ β : Type} [Enc κ] [Enc β] [TK κ]
theorem EntN.del {k : Nat} : ∀ {kvs : List (Key × V)} {l : List (Nat × β)}, EntN K H kvs l → EntN K H (dropK kvs (nK k)) (kDel l k)
  | _, _, .nil => .nil
  | _, _, .cons (k := k2) h1 h2 => by
    unfold dropK kDel
    rw [List.filter_cons, List.filter_cons]
    by_cases c : k2 = k
    · subst c
      rw [if_neg (by simp), if_neg (by simp)]
      exact h2.del
    · rw [if_pos (decide_eq_true (show nK k2 ≠ nK k from fun z => c (nK_inj z))), if_pos (decide_eq_true c)]
      exact .cons h1 h2.del
theorem EntN.same {k : Nat} : ∀ {kvs : List (Key × V)} {l : List (Nat × β)}, EntN K H kvs l → valV kvs (nK k) = none → kDel l k = l
  | _, _, .nil, _ => rfl
  | _, _, .cons (k := k2) h1 h2, e => by
    unfold kDel
    by_cases c : k2 = k
    · subst c
      rw [valV_pos rfl] at e
      cases e
    · rw [valV_neg (show ¬ nK k2 = nK k from fun z => c (nK_inj z))] at e
      rw [List.filter_cons, if_pos (decide_eq_true c)]
      exact congrArg _ (h2.same e)
theorem Ents.del {k : κ} : ∀ {kvs : List (List Key × V)} {l : List (κ × β)}, Ents K H kvs l → Ents K H (dropK kvs (TK.key k)) (dDel l k)
  | _, _, .nil => .nil
  | _, _, .cons (k := k2) h1 h2 => by
    unfold dropK dDel
    rw [List.filter_cons, List.filter_cons]
    by_cases c : k2 = k
    · subst c
      rw [if_neg (by simp), if_neg (by simp)]
      exact h2.del
    · rw [if_pos (decide_eq_true (show TK.key k2 ≠ TK.key k from fun z => c (TK.inj _ _ z))), if_pos (decide_eq_true c)]
      exact .cons h1 h2.del
theorem Ents.same {k : κ} : ∀ {kvs : List (List Key × V)} {l : List (κ × β)}, Ents K H kvs l → valV kvs (TK.key k) = none → dDel l k = l
  | _, _, .nil, _ => rfl
  | _, _, .cons (k := k2) h1 h2, e => by
    unfold dDel
    by_cases c : k2 = k
    · subst c
      rw [valV_pos rfl] at e
      cases e
    · rw [valV_neg (show ¬ TK.key k2 = TK.key k from fun z => c (TK.inj _ _ z))] at e
      rw [List.filter_cons, if_pos (decide_eq_true c)]
      exact congrArg _ (h2.same e)
end
section
variable {K : PySem.W.Frag} {T : List (Addr × Str)} {ρ : List Sl} {C : Option Addr → Prop}
variable {κ α β γ R S B : Type} [Enc κ] [Enc β] [Enc γ] [Enc R] [TK κ] {ρn : S → List Sl} {ρb : B → List Sl}
end
end Bf
namespace Bf
open PySem PySem.Spec PyProof.Rows L2 LamX NdefX
/-! ## fields written anew -/
section
variable {K : PySem.W.Frag} {T : List (Addr × Str)} {ρ : List Sl} {C : Option Addr → Prop}
variable {α β γ R S B : Type} [Enc α] [Ob α] [Enc β] [Enc γ] [Enc R] {ρn : S → List Sl} {ρb : B → List Sl}
end
end Bf
namespace Bf
open PySem PySem.Spec PyProof.Rows L2 LamX NdefX
section
variable {K : PySem.W.Frag} {T : List (Addr × Str)} {ρ : List Sl}
/-! ### defs that tell nothing -/
end
end Bf
/-! ## dicts with tuples for keys held against each other -/
namespace BfEq
open PySem PySem.Calls PyProof.Rows PyProof.V PySem.Spec PySem.W
section
variable {prog : Program} {w : World} {K : Type} [DecidableEq K] {knd : HeapKind prog w K} {A : Around} {E : Value → Shared → Prop} {s : Shared}
/-- entry by entry: is it there, is it the same -/
inductive HitsT (A : Around) (s : Shared) (ys : List (K × Addr × Value)) : List (K × Addr × Value) → Bool → Prop
  | nil : HitsT A s ys [] true
  | miss {x : K × Addr × Value} {r : List (K × Addr × Value)} : atKey ys x.1 = none → HitsT A s ys (x :: r) false
  | hit {x : K × Addr × Value} {p : Addr × Value} {r : List (K × Addr × Value)} {c b : Bool} : atKey ys x.1 = some p → SeqAt.EqAt A s x.2.2 p.2 c → HitsT A s ys r b → HitsT A s ys (x :: r) (c && b)
end
end BfEq
namespace Bf
open PySem PySem.Spec PyProof.Rows L2 LamX NdefX
/-- flat values and the data they are -/
def flD : V → Option PyData
  | .int i => some (.int i)
  | .bl b => some (.bool b)
  | _ => none
section
variable {A : Around} {s : Shared} {κ : Type} [DecidableEq κ]
end
section
variable {X : Cx}
end
/-! ### as words -/
/-- values that are flat -/
class Fla (β : Type) [Enc β] : Prop where
  fl : ∀ {K : PySem.W.Frag} {H : Hp} {v : V} {b : β} {fp : List Addr}, Im K H v (enc b) fp → flD v = some (enc b)
instance : Fla Nat := ⟨fun h => by cases h; rfl⟩
instance : Fla Bool := ⟨fun h => by cases h; rfl⟩
section
variable {K : PySem.W.Frag} {κ β : Type} [Enc κ] [Enc β] [TK κ] [Pu β] [Fla β]
end
/-! ### data in a list of data -/
section
variable {K : PySem.W.Frag} {α : Type} [Enc α]
end
end Bf
namespace Bf
open PySem PySem.Spec PyProof.Rows L2 LamX NdefX
/-! ## for k, v in d.items(): d a dict with tuple keys that nobody holds -/
section
variable {P : Program} {w : World} {K : PySem.W.Frag} {d : Addr} {o : Obj} {es : Array DictEntry} {ep : Nat}
end
/-! ### the loop -/
section
variable {K : PySem.W.Frag} {T : List (Addr × Str)} {ρ : List Sl}
variable {κ β : Type} [Enc κ] [Enc β] [TK κ]
variable {B R S S2 : Type} [Enc R] {C : Option Addr → Prop} {ρn : S → List Sl} {ρb : B → List Sl}
end
end Bf
namespace Bf
open PySem PySem.Spec PyProof.Rows L2 LamX NdefX
/-! ## == and != of two objects of a class with its own == -/
structure CmpT (K : PySem.W.Frag) (C : Addr) : Prop where
  ne : PySem.W.findIn K (.ref C) "__ne__" = some (some (.builtin "object.__ne__"))
  mro : PySem.W.mroIn K C (.type "object") = some true
  cls : PySem.W.findIn K (.ref C) "__class__" = some (some (.builtin "object.__class__"))
  get : PySem.W.specialIn K (.builtin "object.__class__") "__get__" = some (some (.builtin "getset_descriptor.__get__"))
  tak : PySem.W.takesIn K (.builtin "object.__class__") = some true
  kit : PySem.W.kitOne K (.ref C) (.ref C) = some true
section
open PySem.W
variable {prog : Program} {w : World} {A : Around} {E : Value → Shared → Prop} {s : Shared} {K : Frag} {x y C L f : Addr} {h₀ : Heap} {m : Str → Option Value} {ox oy : Obj} {od od' : Option Obj}
end
section
variable {X : Cx} {CX : CXT} {C f : Addr} {fd : FuncData} {ps : List Str} {sp : Sp} {E : XK} {n : Nat}
end
section
variable {K : PySem.W.Frag} {T : List (Addr × Str)} {ρ : List Sl}
end
/-! ## making an object by names, the last parameter left out -/
/-! ## o.m(k = v, ..) -/
section
variable {X : Cx} {CX : CXT} {C f : Addr} {fd : FuncData} {ps ks : List Str} {sp : Sp} {E : XK} {n : Nat} {m : Str} {pos apos : Pos} {o : Expr} {kws : List Keyword} {ta : TE} {tk : TA} {g : List Value → List Value → List Value} {gV : List V → List V → List V}
end
/-! ## for i, xs in enumerate(a new list of lists) -/
section
variable {K : PySem.W.Frag} {T : List (Addr × Str)} {ρ : List Sl} {β : Type} [Enc β]
end
section
variable {K : PySem.W.Frag} {T : List (Addr × Str)} {ρ : List Sl} {C : Option Addr → Prop}
variable {α β γ R S S2 B : Type} [Enc α] [Enc R] {ρn : S → List Sl} {ρb : B → List Sl}
end
/-! ## a list in a list of one's own, changed in place -/
section
variable {K : PySem.W.Frag} {T : List (Addr × Str)} {ρ : List Sl}
end
end Bf
namespace Bf
open PySem PySem.Spec PyProof.Rows L2
/-! ### zip of three lists -/
end Bf
namespace Bf
open PySem PySem.Spec PyProof.Rows L2 LamX NdefX
/-! ## an object in a list of one's own, changed by its own method -/
section
variable {K : PySem.W.Frag} {T : List (Addr × Str)} {ρ : List Sl} {C : Option Addr → Prop}
end
/-! ## == of an object and something else, is None -/
section
variable {X : Cx} {CX : CXT} {C f : Addr} {fd : FuncData} {ps : List Str} {sp : Sp} {E : XK} {n : Nat}
end
structure OthT (K : PySem.W.Frag) (C : Addr) : Prop where
  k : ∀ n ∈ ["int", "tuple", "list"], PySem.W.kitOne K (.type n) (.ref C) = some false
  s : ∀ n ∈ ["int", "tuple", "list"], PySem.W.subIn K (.type n) (.ref C) = some false
/-- what has a type of its own that isn't the class's -/
class Oth (β : Type) [Enc β] where
  nm : String
  mem : nm ∈ ["int", "tuple", "list"]
  ty : ∀ {K : PySem.W.Frag} {H : Hp} {v : V} {b : β} {fp : List Addr}, Im K H v (enc b) fp → TyOf K H v (.type nm)
instance : Oth Nat := ⟨"int", by decide, fun i => by cases i; exact .int _⟩
instance {α : Type} [Enc α] : Oth (Lst α) := ⟨"list", by decide, fun i => by obtain ⟨a, vs, fq, rfl, hT, _⟩ := im_lst i; exact .lst hT⟩
section
variable {K : PySem.W.Frag} {T : List (Addr × Str)} {ρ : List Sl}
end
instance {α : Type} [Enc α] [Tpl α] : Oth α := ⟨"tuple", by decide, fun {K H v b fp} i => by
  obtain ⟨ds, e⟩ := Tpl.ex b
  rw [e] at i
  cases i with
  | tup hT hA => exact .tup hT⟩
/-! ## for x, y, z in zip(three lists that are only read): the x's may be objects -/
section
variable {K : PySem.W.Frag} {T : List (Addr × Str)} {ρ : List Sl} {α β γ : Type} [Enc α] [Enc β] [Enc γ]
end
section
variable {K : PySem.W.Frag} {T : List (Addr × Str)} {ρ : List Sl} {C : Option Addr → Prop}
variable {α β γ R S S2 B : Type} [Enc α] [Enc R] {ρn : S → List Sl} {ρb : B → List Sl}
end
section
variable {K : PySem.W.Frag} {T : List (Addr × Str)} {ρ : List Sl} {α : Type} [Enc α]
end
end Bf
namespace Bf
open PySem PySem.Spec PyProof.Rows L2 LamX NdefX
/-! ## several things of one's own changed at once, and the pot -/
section
variable {K : PySem.W.Frag} {T : List (Addr × Str)} {Bs : Addr → HO → Prop} {po : Option Addr} {ρ ρ' : List Sl} {φ : Nat → List Addr} {σ : L2.St} {H H' : Hp} {n n' : Nat} {nw : Nat → Option (PyData × List Addr)}
/-- what stands in the slots anew -/
structure NewS (K : PySem.W.Frag) (H H' : Hp) (ρ : List Sl) (φ : Nat → List Addr) (σ : L2.St) (nw : Nat → Option (PyData × List Addr)) : Prop where
  old : ∀ i x, nw i = some x → ∃ d v, ρ[i]? = some (.own d) ∧ σ[i]? = some (some v) ∧ Im K H' v x.1 x.2 ∧ x.2.Nodup ∧ ∀ b ∈ x.2, b ∈ φ i ∨ Fsh H b
  dis : ∀ i j x y, i ≠ j → nw i = some x → nw j = some y → ∀ b ∈ x.2, b ∉ y.2
end
end Bf
namespace Bf
open PySem PySem.Spec PyProof.Rows L2 LamX NdefX
/-! ## defs that change one of their arguments, a list -/
class Lk (α : Type) [Enc α] : Prop where
  li : ∀ a : α, ∃ ds, enc a = .list ds
instance {α : Type} [Enc α] : Lk (Lst α) := ⟨fun a => ⟨_, rfl⟩⟩
section
variable {K : PySem.W.Frag} {H : Hp} {α : Type} [Enc α] [Lk α]
theorem Lk.ref {v : V} {a : α} {fp : List Addr} (h : Im K H v (enc a) fp) : ∃ x, v = .ref x := by
  obtain ⟨ds, e⟩ := Lk.li a
  rw [e] at h
  cases h with
  | lst hT hA q => exact ⟨_, rfl⟩
end
section
variable {K : PySem.W.Frag} {T : List (Addr × Str)} {ρ : List Sl}
end
end Bf
namespace Bf
open PySem PySem.Spec PyProof.Rows L2 LamX NdefX
section
variable {K : PySem.W.Frag} {T : List (Addr × Str)} {ρ : List Sl} {α β : Type} [Enc α] [Enc β]
/-! ## a list that a def changes: the path to it -/
/-! ## a comprehension whose items are lists that others hold -/
/-! ## xs * n of a list of lists -/
end
/-! ## zip of two lists that are only read -/
section
variable {K : PySem.W.Frag} {T : List (Addr × Str)} {ρ : List Sl} {α β γ : Type} [Enc α] [Enc β]
end
section
variable {K : PySem.W.Frag} {T : List (Addr × Str)} {ρ : List Sl} {C : Option Addr → Prop}
variable {α β γ R S S2 B : Type} [Enc α] [Enc R] {ρn : S → List Sl} {ρb : B → List Sl}
end
end Bf
namespace Bf
open PySem PySem.Spec PyProof.Rows L2 LamX NdefX
section
variable {K : PySem.W.Frag} {T : List (Addr × Str)} {ρ : List Sl} {C : Option Addr → Prop}
variable {α R B S : Type} [Enc α] [Enc R] {ρn : S → List Sl} {ρb : B → List Sl}
end
section
variable {K : PySem.W.Frag} {T : List (Addr × Str)} {ρ : List Sl} {α β : Type} [Enc α] [Enc β]
/-! ## [e for x in xs]: x shared, e new -/
end
section
variable {K : PySem.W.Frag} {T : List (Addr × Str)} {ρ : List Sl} {α : Type} [Enc α]
end
end Bf
namespace Bf
open PySem PySem.Spec PyProof.Rows L2 LamX NdefX
/-! ## records: dicts whose keys are texts -/
abbrev rcD (ns : List Str) (ds : List PyData) : PyData := .dict ((.none, .none) :: obF ns ds)
class Rc (α : Type) [Enc α] where
  ns : List Str
  fl : α → List PyData
  en : ∀ a, enc a = rcD ns (fl a)
  ln : ∀ a, ns.length = (fl a).length
section
variable {K : PySem.W.Frag} {H H' : Hp}
structure RcAt (K : PySem.W.Frag) (H : Hp) (a : Addr) (ns : List Str) (ds : List PyData) (kvs : List (Key × V)) (fp : List Addr) : Prop where
  at_ : H a = some (.dK kvs)
  nm : kvs.map Prod.fst = ns.map Sum.inr
  it : ImA K H (kvs.map Prod.snd) ds fp
theorem kD_str : ∀ {ks : List Key} {ns : List Str}, ks.map kD = ns.map PyData.str → ks = ns.map Sum.inr
  | [], [], _ => rfl
  | [], _ :: _, h => by cases h
  | _ :: _, [], h => by cases h
  | k :: ks, n :: ns, h => by
    rw [List.map_cons, List.map_cons, List.cons.injEq] at h
    rw [List.map_cons, kD_str h.2]
    cases k with
    | inl i => cases h.1
    | inr x => rw [PyData.str.inj h.1]
theorem im_rc {v : V} {ns : List Str} {ds : List PyData} {fq : List Addr} (h : Im K H v (rcD ns ds) fq) (hl : ns.length = ds.length) : ∃ a kvs fp, v = .ref a ∧ RcAt K H a ns ds kvs fp ∧ fq = a :: fp := by
  generalize hp : rcD ns ds = d at h
  cases h with
  | dicK e e1 e2 hA q =>
    have hp := (List.cons.inj (PyData.dict.inj hp)).2
    subst hp
    rw [obF_fst hl] at e1
    rw [obF_snd hl] at e2
    subst e2
    refine ⟨_, _, _, rfl, ⟨e, kD_str ?_, hA⟩, q⟩
    rw [List.map_map]
    exact e1.symm
  | dicT e e1 e2 hA q =>
    have hp := PyData.dict.inj hp
    subst hp
    rename_i kvs _ _
    cases kvs with
    | nil => cases e1
    | cons x xs => exact absurd (List.cons.inj e1).1 (fun z => nomatch z)
  | ins em e e1 e2 hA q =>
    have hp := congrArg Prod.fst (List.cons.inj (PyData.dict.inj hp)).1
    dsimp only at hp
    rcases em with rfl | rfl
    · cases hp
    · cases hp
  | pin z =>
    have hp := congrArg Prod.fst (List.cons.inj (PyData.dict.inj hp)).1
    cases hp
  | _ => cases hp
theorem RcAt.im {a : Addr} {ns : List Str} {ds : List PyData} {kvs : List (Key × V)} {fp : List Addr} (h : RcAt K H a ns ds kvs fp) (hl : ns.length = ds.length) : Im K H (.ref a) (rcD ns ds) (a :: fp) := by
  refine .dicK h.at_ ?_ (obF_snd hl) h.it rfl
  rw [obF_fst hl]
  have e : kvs.map (fun kv => kD kv.1) = (kvs.map Prod.fst).map kD := by rw [List.map_map]; rfl
  rw [e, h.nm, List.map_map]
  rfl
end
/-! ### reading -/
section
variable {K : PySem.W.Frag} {T : List (Addr × Str)} {ρ : List Sl} {α β : Type} [Enc α] [Enc β]
end
/-! ### a record's part as a path -/
section
variable {K : PySem.W.Frag} {H H1 : Hp} {v w : V} {fp fc : List Addr} {ctx : PyData → PyData}
theorem SubA.key {ns : List Str} {ds : List PyData} {j : Nat} {d : PyData} (h : SubA K H v fp w (rcD ns ds) fc ctx) (hl : ns.length = ds.length) (e : ds[j]? = some d) : ∃ a kvs u fj, w = .ref a ∧ H a = some (.dK kvs) ∧ kvs.map Prod.fst = ns.map Sum.inr ∧ (kvs.map Prod.snd)[j]? = some u ∧ a ∈ fc ∧ a ∉ fj ∧ (∀ b ∈ fj, b ∈ fc) ∧ SubA K H v fp u d fj fun x => ctx (rcD ns (ds.set j x)) := by
  obtain ⟨a, kvs, fq, rfl, o, ef⟩ := im_rc h.im hl
  have hnd := h.nd
  rw [ef] at hnd
  obtain ⟨n1, n2⟩ := List.nodup_cons.mp hnd
  obtain ⟨u, fj, e1, e2, e3, e4, e5⟩ := o.it.focus n2 e
  have inc : ∀ b ∈ fj, b ∈ fc := fun b hb => by rw [ef]; exact List.mem_cons_of_mem _ (e4 b hb)
  have afc : a ∈ fc := by rw [ef]; exact List.mem_cons_self
  have afj : a ∉ fj := fun z => n1 (e4 a z)
  refine ⟨a, kvs, u, fj, rfl, o.at_, o.nm, e1, afc, afj, inc, e2, e3, fun b hb => h.sub b (inc b hb), fun H' d' fc' ht hk im nd hf => ?_⟩
  have ha := hk a (h.sub a afc) afj _ o.at_ trivial
  obtain ⟨fp', g1, g2, g3⟩ := e5 H' u d' fc' ht (fun b hb hn => hk b (h.sub b (by rw [ef]; exact List.mem_cons_of_mem _ hb)) hn) im nd fun b hb => (hf b hb).imp id fun z y => z (h.sub b (by rw [ef]; exact List.mem_cons_of_mem _ y))
  rw [set_self e1] at g1
  have nd' : (a :: fp').Nodup := List.nodup_cons.mpr ⟨fun z => by
    rcases g3 a z with y | y
    · exact n1 y.1
    · rcases hf a y with x | x
      · exact afj x
      · exact x (h.sub a afc), g2⟩
  have o' : RcAt K H' a ns (ds.set j d') kvs fp' := ⟨ha, o.nm, g1⟩
  obtain ⟨fq', k1, k2, k3⟩ := h.put H' _ (a :: fp') ht (fun b hb hn => hk b hb fun z => hn (inc b z)) (o'.im (by rw [List.length_set]; exact hl)) nd' fun b hb => by
    rcases List.mem_cons.mp hb with rfl | hb
    · exact .inl afc
    rcases g3 b hb with z | z
    · exact .inl (by rw [ef]; exact List.mem_cons_of_mem _ z.1)
    · rcases hf b z with y | y
      · exact .inl (inc b y)
      · exact .inr y
  exact ⟨fq', k1, k2, fun b hb => by
    rcases k3 b hb with z | z
    · exact .inl z
    · rcases List.mem_cons.mp z with rfl | z
      · exact .inl (h.sub _ afc)
      rcases g3 b z with y | y
      · exact .inl (h.sub b (by rw [ef]; exact List.mem_cons_of_mem _ y.1))
      · exact .inr y⟩
end
section
variable {K : PySem.W.Frag} {T : List (Addr × Str)} {ρ : List Sl} {α γ β : Type} [Enc α] [Enc β]
end
end Bf
namespace Bf
open PySem PySem.Spec PyProof.Rows L2 LamX NdefX
/-! ## dict.update, dict(pairs), list(d.items()), of dicts with tuple keys -/
section
variable {X : Cx}
end
end Bf
namespace Bf
open PySem PySem.Spec PyProof.Rows L2 LamX NdefX
section
variable {X : Cx}
end
end Bf
namespace Bf
open PySem PySem.Spec PyProof.Rows L2 LamX NdefX
/-! ## list(d.items()), dict(pairs) -/
section
variable {K : PySem.W.Frag} {T : List (Addr × Str)} {ρ : List Sl}
variable {κ α β γ : Type} [Enc κ] [Enc α] [Enc β] [Enc γ] [TK κ]
end
/-! ## things with a place: lists, objects, records -/
class Pk (α : Type) [Enc α] : Prop where
  pk : ∀ a : α, (∃ ds, enc a = .list ds) ∨ ∃ ps, enc a = .dict ps ∧ ∀ x, ps ≠ [(.str "any", x)]
instance {α : Type} [Enc α] : Pk (Lst α) := ⟨fun a => .inl ⟨_, rfl⟩⟩
instance {α : Type} [Enc α] [Rc α] : Pk α := ⟨fun a => .inr ⟨_, Rc.en a, fun x z => by cases congrArg Prod.fst (List.cons.inj z).1⟩⟩
section
variable {K : PySem.W.Frag} {H : Hp} {α : Type} [Enc α] [Pk α]
theorem Pk.ref {v : V} {a : α} {fp : List Addr} (h : Im K H v (enc a) fp) : ∃ x, v = .ref x := by
  rcases Pk.pk a with ⟨ds, e⟩ | ⟨ds, e, na⟩
  · rw [e] at h
    cases h
    exact ⟨_, rfl⟩
  · rw [e] at h
    cases h <;> first | exact ⟨_, rfl⟩ | exact (na _ rfl).elim
end
section
variable {K : PySem.W.Frag} {T : List (Addr × Str)} {ρ : List Sl}
end
end Bf
namespace Bf
open PySem PySem.Spec PyProof.Rows L2 LamX NdefX
/-! ## going through a dict that stands in a record -/
def NoBs : List Sl → Prop
  | [] => True
  | .any :: r => NoBs r
  | .pot :: r => NoBs r
  | .own _ :: r => NoBs r
  | _ => False
theorem NoBs.at : ∀ {ρ : List Sl} {j : Nat} {s : Sl}, NoBs ρ → ρ[j]? = some s → s = .any ∨ s = .pot ∨ ∃ d, s = .own d
  | [], _, _, _, h => by cases h
  | x :: r, 0, s, h, e => by
    obtain rfl : x = s := Option.some.inj e
    cases x with
    | any => exact .inl rfl
    | pot => exact .inr (.inl rfl)
    | own d => exact .inr (.inr ⟨d, rfl⟩)
    | _ => exact h.elim
  | x :: r, j + 1, s, h, e => by
    have h2 : NoBs r := by
      cases x with
      | any => exact h
      | pot => exact h
      | own d => exact h
      | _ => exact h.elim
    exact NoBs.at (j := j) h2 e
section
variable {K : PySem.W.Frag} {T : List (Addr × Str)} {Bs : Addr → HO → Prop} {po : Option Addr} {ρ ρ0 : List Sl} {φ : Nat → List Addr} {σ : L2.St} {H H' : Hp} {n n' : Nat}
end
section
variable {K : PySem.W.Frag} {T : List (Addr × Str)} {ρ ρ0 : List Sl}
variable {κ α β γ : Type} [Enc κ] [Enc α] [Enc β] [Enc γ] [TK κ]
end
end Bf
namespace Bf
open PySem PySem.Spec PyProof.Rows L2 LamX NdefX
/-! ## parts changed -/
section
variable {K : PySem.W.Frag} {T : List (Addr × Str)} {ρ : List Sl} {C : Option Addr → Prop}
variable {α β γ R S B : Type} [Enc α] [Enc β] [Enc R] {ρn : S → List Sl} {ρb : B → List Sl}
end
end Bf
namespace Bf
open PySem PySem.Spec PyProof.Rows L2 LamX NdefX
/-! ## {k: v}, k a tuple -/
end Bf
namespace Bf
open PySem PySem.Spec PyProof.Rows L2 LamX NdefX
section
variable {K : PySem.W.Frag} {T : List (Addr × Str)} {ρ : List Sl}
variable {κ α β γ : Type} [Enc κ] [Enc α] [Enc β] [Enc γ]
/-! ### displays with texts for keys -/
def tP (ts : List (Str × TE)) : List (TE × TE) := ts.map fun x => (tC (.str x.1), x.2)
def RDs (K : PySem.W.Frag) (T : List (Addr × Str)) (ts : List (Str × TE)) (ρ : List Sl) (mv : List Nat) {δ : Type} (m : M δ) (f : δ → List PyData) : Prop := ∀ (Bs : Addr → HO → Prop) (po : Option Addr) (φ : Nat → List Addr) (σ : L2.St) (H : Hp) (n : Nat), ST K T Bs po ρ φ σ H n → ∀ P : δ → Nat → Prop, m n P → ∀ Q : List (V × V) → Hp → Prop,
  (∀ (x : δ) (n' : Nat) (vs : List V) (H' : Hp) (fp : List Addr), P x n' → Af K T po H n H' n' → ImA K H' vs (f x) fp → fp.Nodup → (∀ b ∈ fp, po ≠ some b ∧ (Fsh H b ∨ ∃ i ∈ mv, b ∈ φ i)) → Q ((ts.map fun t => V.str t.1).zip vs) H') → tPairs (tP ts) σ H Q
theorem rds_nil : RDs K T [] ρ [] (retW ()) (fun _ => []) := fun Bs po φ σ H n st P p Q q => q () n [] H [] p Af.refl .nil List.nodup_nil fun b hb => absurd hb List.not_mem_nil
theorem mtb_nfsh {H : Hp} {b : Addr} {o : HO} (e : H b = some o) (m : Mtb o) : ¬ Fsh H b := fun f => by
  obtain ⟨ps, q⟩ := f o e
  exact m.tbl ps q
theorem rds_cons {k : Str} {t : TE} {ts : List (Str × TE)} {mv : List Nat} {m1 : M β} {δ : Type} {m2 : M δ} {f2 : δ → List PyData} (he : RE K T t ρ true m1) (h : RDs K T ts ρ mv m2 f2) (hmv : ∀ i ∈ mv, ∃ d, ρ[i]? = some (.own d)) : RDs K T ((k, t) :: ts) ρ mv (b2W m1 m2 fun a b => retW (a, b)) (fun x => enc x.1 :: f2 x.2) := fun Bs po φ σ H n st P p Q q => by
  refine he Bs po φ σ H n st _ p _ fun a n1 y H1 fa pa a1 i1 g1 => ?_
  refine h Bs po φ σ H1 n1 (st.af a1) _ pa _ fun x n2 vs H2 fp pb a2 iA nd hf => ?_
  have i2 := i1.af g1.1 a2.fr
  refine q (a, x) n2 (y :: vs) H2 (fa ++ fp) pb (a1.trans a2) (.cons i2 iA rfl) (List.nodup_append.mpr ⟨(g1.2 rfl).1, nd, fun b hb c hc e => ?_⟩) fun b hb => ?_
  · subst e
    obtain ⟨o, ho, hm⟩ := Im.mtb _ _ _ i1 b hb
    rcases (hf b hc).2 with z | ⟨i, hi, z⟩
    · exact mtb_nfsh ho hm z
    · obtain ⟨d, ei⟩ := hmv i hi
      exact st.fresh_own ((g1.2 rfl).2 b hb) ei z
  · rcases List.mem_append.mp hb with hb | hb
    · exact ⟨g1.1 b hb, .inl ((g1.2 rfl).2 b hb)⟩
    · exact ⟨(hf b hb).1, (hf b hb).2.imp (fun z => Fsh.back a1.fr (hf b hb).1 z) id⟩
theorem mergeK_nil : ∀ {more acc : List (L2.Key × V)}, ((acc ++ more).map Prod.fst).Nodup → mergeK acc more = acc ++ more
  | [], acc, _ => by rw [List.append_nil]; rfl
  | p :: more, acc, h => by
    have hp : p.1 ∉ acc.map Prod.fst := by
      rw [List.map_append, List.map_cons, List.nodup_append] at h
      exact fun z => h.2.2 _ z _ List.mem_cons_self rfl
    have e : putK acc p.1 p.2 = acc ++ [p] := by
      unfold putK
      rw [if_neg]
      intro z
      obtain ⟨kv, h1, h2⟩ := List.any_eq_true.mp z
      exact hp (List.mem_map.mpr ⟨kv, h1, of_decide_eq_true h2⟩)
    show mergeK (putK acc p.1 p.2) more = _
    rw [e, mergeK_nil (by rw [List.append_assoc]; exact h), List.append_assoc]
    rfl
theorem zip_keys : ∀ (ks : List Str) (vs : List V), (ks.map V.str).zip vs = ((ks.map fun k => (Sum.inr k : L2.Key)).zip vs).map fun kv => (kV kv.1, kv.2)
  | [], _ => rfl
  | _ :: _, [] => rfl
  | k :: ks, v :: vs => by
    rw [List.map_cons, List.map_cons, List.zip_cons_cons, List.zip_cons_cons, List.map_cons, zip_keys ks vs]
    rfl
theorem str_map (ts : List (Str × TE)) : (ts.map fun t => V.str t.1) = (ts.map Prod.fst).map V.str := by rw [List.map_map]; rfl
theorem inr_nodup {ks : List Str} (h : ks.Nodup) : (ks.map fun k => (Sum.inr k : L2.Key)).Nodup := List.pairwise_map.mpr (h.imp fun h z => h (Sum.inr.inj z))
/-- a record as it is written -/
theorem re_dispR [Rc β] {ts : List (Str × TE)} {δ : Type} {m : M δ} {f : δ → List PyData} (mk : δ → β) (hmk : ∀ x, Rc.fl (mk x) = f x) (hns : ts.map Prod.fst = Rc.ns β) (hnd : (Rc.ns β).Nodup) (h15 : (Rc.ns β).length ≤ 15) (h : RDs K T ts ρ [] m f) : RE K T (tDisp (tP ts)) ρ true (bindW m fun x => retW (mk x)) := fun Bs po φ σ H n st P p Q q p0 np => by
  have a0 : Af K T po H n (upd H p0 (.dK [])) n := Af.new np
  refine h Bs po φ σ _ n (st.af a0) _ p _ fun x n2 vs H2 fp pb a2 iA nd hf => ?_
  have hpp : po ≠ some p0 := st.fresh_pot fun o e => by rw [np] at e; cases e
  have e2 := a2.fr.keep p0 _ hpp upd_same (fun ps z => nomatch z)
  have hl : ts.length = vs.length := by rw [iA.len, ← hmk, ← Rc.ln, ← hns, List.length_map]
  have hz : (ts.map fun t => V.str t.1).zip vs = (((Rc.ns β).map fun k => (Sum.inr k : L2.Key)).zip vs).map fun kv => (kV kv.1, kv.2) := by
    rw [str_map, hns, zip_keys]
  have hln : (Rc.ns β).length = vs.length := by rw [← hl, ← hns, List.length_map]
  refine ⟨e2, ((Rc.ns β).map fun k => (Sum.inr k : L2.Key)).zip vs, hz, by rw [List.length_zip, List.length_map]; omega, ?_⟩
  have hf1 : (((Rc.ns β).map fun k => (Sum.inr k : L2.Key)).zip vs).map Prod.fst = (Rc.ns β).map Sum.inr := List.map_fst_zip (by rw [List.length_map]; omega)
  have hf2 : (((Rc.ns β).map fun k => (Sum.inr k : L2.Key)).zip vs).map Prod.snd = vs := List.map_snd_zip (by rw [List.length_map]; omega)
  have hm : mergeK [] (((Rc.ns β).map fun k => (Sum.inr k : L2.Key)).zip vs) = ((Rc.ns β).map fun k => (Sum.inr k : L2.Key)).zip vs := mergeK_nil (by
    rw [List.nil_append, hf1]
    exact inr_nodup hnd)
  rw [hm]
  have p0fp : p0 ∉ fp := fun z => by
    rcases (hf p0 z).2 with y | ⟨i, hi, _⟩
    · exact mtb_nfsh (o := .dK []) upd_same trivial y
    · cases hi
  have tp := noTbl (u' := .dK (((Rc.ns β).map fun k => (Sum.inr k : L2.Key)).zip vs)) e2 trivial
  have o : RcAt K (upd H2 p0 (.dK (((Rc.ns β).map fun k => (Sum.inr k : L2.Key)).zip vs))) p0 (Rc.ns β) (f x) (((Rc.ns β).map fun k => (Sum.inr k : L2.Key)).zip vs) fp := ⟨upd_same, hf1, by
    rw [hf2]
    exact ImA.stab tp _ _ _ iA fun b hb o ho _ => by rw [upd_ne fun z => p0fp (by rw [← z]; exact hb)]; exact ho⟩
  have af : Af K T po H n (upd H2 p0 (.dK (((Rc.ns β).map fun k => (Sum.inr k : L2.Key)).zip vs))) n2 := by
    have a12 := a0.trans a2
    refine ⟨⟨fun b o hb e t => ?_, fun b xs e => tp b xs (a12.fr.tup b xs e)⟩, fun t => tabs_updM (a12.tabs t) e2 trivial, fun p hp pp => ?_⟩
    · rw [upd_ne (fun q => by rw [q, np] at e; cases e)]
      exact a12.fr.keep b o hb e t
    · obtain ⟨x, y, z, hH, hh⟩ := a12.pot p hp pp
      exact ⟨x, y, z, by rw [upd_ne (fun q => hpp (by rw [← q]; exact hp))]; exact hH, hh⟩
  refine q (mk x) n2 (.ref p0) _ (p0 :: fp) pb af (by rw [Rc.en, hmk]; exact o.im (by rw [← hmk]; exact Rc.ln _)) ⟨fun b hb => ?_, fun _ => ⟨List.nodup_cons.mpr ⟨p0fp, nd⟩, fun b hb => ?_⟩⟩
  · rcases List.mem_cons.mp hb with rfl | hb
    · exact hpp
    · exact (hf b hb).1
  · rcases List.mem_cons.mp hb with rfl | hb
    · exact fun o e => by rw [np] at e; cases e
    · rcases (hf b hb).2 with y | ⟨i, hi, _⟩
      · exact Fsh.back a0.fr (hf b hb).1 y
      · cases hi
/-! ### record.update(display) -/
end
section
variable {K : PySem.W.Frag} {T : List (Addr × Str)} {ρ ρ' : List Sl} {C : Option Addr → Prop}
variable {α γ R S B : Type} [Enc α] [Enc R] {ρn : S → List Sl} {ρb : B → List Sl}
end
end Bf
namespace Bf
open PySem PySem.Spec PyProof.Rows L2 LamX NdefX
/-! ## two things of one's own changed by a def, and the pot -/
section
variable {K : PySem.W.Frag} {T : List (Addr × Str)} {Bs : Addr → HO → Prop} {po : Option Addr} {ρ : List Sl} {φ : Nat → List Addr} {σ : L2.St} {H H' : Hp} {n n' : Nat}
end
/-- how a slot holds a thing: as it is, or with its place -/
structure RtE (K : PySem.W.Frag) {α : Type} [Enc α] (e : α → PyData) : Prop where
  im : ∀ {H : Hp} {v : V} {s : α} {fp : List Addr}, Im K H v (e s) fp → ∃ x, v = .ref x ∧ Im K H (.ref x) (enc s) fp
  bk : ∀ {H H' : Hp} {x : Addr} {s s' : α} {fp fp' : List Addr}, Im K H (.ref x) (e s) fp → Im K H' (.ref x) (enc s') fp' → Im K H' (.ref x) (e s') fp'
/-! ### defs that return early: at a 'return' stands what is told, as at the end -/
def RBt (K : PySem.W.Frag) (T : List (Addr × Str)) (C : Option Addr → Prop) (t : TS) (ρ : List Sl) {S : Type} (m : M S) (ρn : S → List Sl) : Prop :=
  ∀ (Bs : Addr → HO → Prop) (po : Option Addr), C po → ∀ (σ : L2.St) (H : Hp) (n : Nat), STe K T Bs po ρ σ H n → ∀ P : S → Nat → Prop, m n P → ∀ D : Ends,
    (∀ s n' σ' H' Bs', P s n' → Sub Bs Bs' → STe K T Bs' po (ρn s) σ' H' n' → Tpk K H H' → D.nx σ' H') →
    (∀ s n' σ' H' Bs', P s n' → Sub Bs Bs' → STe K T Bs' po (ρn s) σ' H' n' → Tpk K H H' → D.rt .non H') → t D σ H
section
variable {K : PySem.W.Frag} {T : List (Addr × Str)} {ρ : List Sl} {C : Option Addr → Prop} {α β S R B : Type} [Enc α] [Enc β] [Enc R] {ρn : S → List Sl} {ρb : B → List Sl}
theorem RBt.go {t : TS} {m : M S} (h : RBt K T C t ρ m ρn) {Bs Bs1 : Addr → HO → Prop} {po : Option Addr} (hC : C po) {σ : L2.St} {H0 H : Hp} {n : Nat} (st : STe K T Bs1 po ρ σ H n) {P : S → Nat → Prop} (p : m n P) {D : Ends} (sub : Sub Bs Bs1) (tp : Tpk K H0 H)
    (h1 : ∀ s n' σ' H' Bs', P s n' → Sub Bs Bs' → STe K T Bs' po (ρn s) σ' H' n' → Tpk K H0 H' → D.nx σ' H') (h2 : ∀ s n' σ' H' Bs', P s n' → Sub Bs Bs' → STe K T Bs' po (ρn s) σ' H' n' → Tpk K H0 H' → D.rt .non H') : t D σ H :=
  h Bs1 po hC σ H n st P p D (fun s n' σ' H' Bs' p' sb st' tp' => h1 s n' σ' H' Bs' p' (fun b o z => sb b o (sub b o z)) st' (tp.trans tp')) fun s n' σ' H' Bs' p' sb st' tp' => h2 s n' σ' H' Bs' p' (fun b o z => sb b o (sub b o z)) st' (tp.trans tp')
end
section
variable {K : PySem.W.Frag} {T : List (Addr × Str)} {ρ : List Sl}
end
end Bf
namespace Bf
open PySem PySem.Spec PyProof.Rows L2 LamX NdefX
/-! ## methods that change what a path tells; more -/
section
variable {K : PySem.W.Frag} {T : List (Addr × Str)} {ρ : List Sl} {C : Option Addr → Prop}
end
section
variable {K : PySem.W.Frag} {T : List (Addr × Str)} {ρ : List Sl} {C : Option Addr → Prop}
variable {α β γ R S B : Type} [Enc α] [Enc β] [Enc γ] [Enc R] {ρn : S → List Sl} {ρb : B → List Sl}
end
end Bf
namespace Bf
open PySem PySem.Spec PyProof.Rows L2 LamX NdefX
instance {α : Type} [Enc α] [Ob α] : Pk α := ⟨fun a => .inr ⟨_, Ob.en a, fun x z => by cases congrArg Prod.fst (List.cons.inj z).1⟩⟩
section
variable {K : PySem.W.Frag} {T : List (Addr × Str)} {ρ ρ' : List Sl} {C : Option Addr → Prop}
variable {α γ R S B : Type} [Enc α] [Enc R] {ρn : S → List Sl} {ρb : B → List Sl}
end
end Bf
namespace Bf
open PySem PySem.Spec PyProof.Rows L2 LamX NdefX
/-! ## sorted(xs) of pairs -/
section
variable {K : PySem.W.Frag}
end
end Bf
namespace Bf
open PySem PySem.Spec PyProof.Rows L2 LamX NdefX
instance {κ β : Type} [Enc κ] [Enc β] [TK κ] : Pk (Dct κ β) := ⟨fun a => .inr ⟨_, rfl, fun x z => by
  cases h : a.l with
  | nil => rw [h] at z; cases z
  | cons y ys =>
    rw [h, List.map_cons] at z
    have e := congrArg Prod.fst (List.cons.inj z).1
    rw [show ((enc y.1, enc y.2) : PyData × PyData).1 = enc y.1 from rfl, TK.en] at e
    cases e⟩⟩
section
variable {K : PySem.W.Frag} {T : List (Addr × Str)} {ρ : List Sl}
/-! ### three at once, the first two new things -/
end
end Bf
namespace Bf
open PySem PySem.Spec PyProof.Rows L2 LamX NdefX
section
variable {K : PySem.W.Frag} {T : List (Addr × Str)} {ρ : List Sl} {C : Option Addr → Prop}
variable {α γ R S S2 B : Type} [Enc α] [Enc R] {ρn : S → List Sl} {ρb : B → List Sl}
end
section
variable {K : PySem.W.Frag} {T : List (Addr × Str)} {ρ ρ0 : List Sl}

variable {κ β γ : Type} [Enc κ] [Enc β] [Enc γ] [TK κ]
end
end Bf
namespace Bf
open PySem PySem.Spec PyProof.Rows L2 LamX NdefX
/-! ## sorted(set(many numbers)): fewer than 64 unlike ones -/
section
variable {X : Cx}
end
section
variable {K : PySem.W.Frag} {T : List (Addr × Str)} {ρ : List Sl}
end
end Bf
/-! ## tuples of whole numbers of unlike lengths, in their order -/
namespace BfS
open PySem PySem.W PySem.Calls PyProof.Rows
section
variable {prog : Program} {w : World} {A : Around} {E : Value → Shared → Prop} {s : Shared}
end
end BfS
/-! ## sorted(set) of tuples of whole numbers of unlike lengths -/
namespace BfS
end BfS
namespace L2
open PySem PySem.Spec PyProof.Rows
section
variable {P : Program} {w : World} {A : Around} {E : Value → Shared → Prop} {s : Shared}
end
section
variable {X : Cx}
end
end L2
namespace Bf
open PySem PySem.Spec PyProof.Rows L2 LamX NdefX
/-! ## the order of rows of numbers, of unlike lengths -/
/-! ## sorted(set(rows)) -/
section
variable {P : Program} {w : World} {K : PySem.W.Frag} {T : List (Addr × Str)} {ρ : List Sl}
end
end Bf
namespace Bf
open PySem PySem.Spec PyProof.Rows L2 LamX NdefX
section
variable {K : PySem.W.Frag} {T : List (Addr × Str)} {ρ : List Sl} {C : Option Addr → Prop}
variable {α R S B : Type} [Enc α] {ρn : S → List Sl} {ρb : B → List Sl}
end
end Bf
namespace Bf
open PySem PySem.Spec PyProof.Rows L2 LamX NdefX
/-! ## a call that is never come to -/
end Bf
namespace Bf
open PySem PySem.Spec PyProof.Rows L2 LamX NdefX
/-! ## unlike things in one list: numbers, None, tuples of such -/
mutual
def pureD : PyData → Bool
  | .none => true
  | .int _ => true
  | .tuple ds => pureDs ds
  | _ => false
def pureDs : List PyData → Bool
  | [] => true
  | d :: ds => pureD d && pureDs ds
end
structure Dn where
  d : PyData
  pu : pureD d = true
instance : Enc Dn := ⟨Dn.d⟩
mutual
theorem pu_d {K : PySem.W.Frag} {H : Hp} : ∀ (d : PyData) (v : V) (fp : List Addr), pureD d = true → Im K H v d fp → fp = []
  | .none, _, _, _, h => by cases h; rfl
  | .int _, _, _, _, h => by cases h; rfl
  | .tuple ds, _, _, p, h => by
    cases h with
    | tup _ hA => exact pu_ds ds _ _ p hA
  | .bool _, _, _, p, _ => by cases p
  | .str _, _, _, p, _ => by cases p
  | .list _, _, _, p, _ => by cases p
  | .dict _, _, _, p, _ => by cases p
theorem pu_ds {K : PySem.W.Frag} {H : Hp} : ∀ (ds : List PyData) (vs : List V) (fp : List Addr), pureDs ds = true → ImA K H vs ds fp → fp = []
  | [], _, _, _, h => by cases h; rfl
  | d :: ds, _, _, p, h => by
    have p : (pureD d && pureDs ds) = true := p
    obtain ⟨p1, p2⟩ := Bool.and_eq_true_iff.mp p
    cases h with
    | cons a b q =>
      rw [q, pu_d d _ _ p1 a, pu_ds ds _ _ p2 b]
      rfl
end
instance : Pu Dn := ⟨fun {K H v a fp} h => pu_d a.d v fp a.pu h⟩
class PD (α : Type) [Enc α] : Prop where
  ok : ∀ a : α, pureD (enc a) = true
theorem pds_all {α : Type} [Enc α] [PD α] : ∀ xs : List α, pureDs (xs.map enc) = true
  | [] => rfl
  | x :: xs => by
    show (pureD (enc x) && pureDs (xs.map enc)) = true
    rw [PD.ok x, pds_all xs]
    rfl
instance : PD Nat := ⟨fun _ => rfl⟩
instance {α : Type} [Enc α] [PD α] : PD (Option α) := ⟨fun a => match a with | none => rfl | some a => PD.ok a⟩
instance {α : Type} [Enc α] [PD α] : PD (List α) := ⟨fun xs => pds_all xs⟩
instance {α β : Type} [Enc α] [Enc β] [PD α] [PD β] : PD (α × β) := ⟨fun x => by
  show (pureD (enc x.1) && (pureD (enc x.2) && true)) = true
  rw [PD.ok x.1, PD.ok x.2]
  rfl⟩
end Bf
/-! ## sorted(list) of rows of unlike lengths -/
namespace L2
open PySem PySem.Spec PyProof.Rows
variable {X : Cx}
end L2
namespace Bf
open PySem PySem.Spec PyProof.Rows L2 LamX NdefX
section
variable {K : PySem.W.Frag} {T : List (Addr × Str)} {ρ : List Sl}
end
end Bf
/-! ## sorted(list) of tuples that begin with unlike numbers -/
namespace BfS
open PySem PySem.W PySem.Calls PyProof.Rows
section
variable {prog : Program} {w : World} {A : Around} {E : Value → Shared → Prop} {s : Shared}
def FstI (h : Heap) (v : Value) (n : Int) : Prop := ∃ a o xs m t r, v = Value.ref a ∧ h.get? a = some o ∧ o.cls = .type "tuple" ∧ o.data = .seq xs m ∧ xs.toList = .int n t :: r
theorem FstI.keeps {h h' : Heap} {v : Value} {n : Int} (x : FstI h v n) (k : ∀ b o, h.get? b = some o → o.cls = .type "tuple" → h'.get? b = some o) : FstI h' v n := by
  obtain ⟨a, o, xs, m, t, r, e, ho, hc, hd, hx⟩ := x
  exact ⟨a, o, xs, m, t, r, e, k _ _ ho hc, hc, hd, hx⟩
end
end BfS
namespace BfS
open PySem
end BfS
namespace L2
open PySem PySem.Spec PyProof.Rows
variable {X : Cx}
end L2
namespace Bf
open PySem PySem.Spec PyProof.Rows L2 LamX NdefX
section
variable {K : PySem.W.Frag} {T : List (Addr × Str)} {ρ : List Sl} {β : Type} [Enc β] [Pu β]
end
end Bf
namespace Bf
open PySem PySem.Spec PyProof.Rows L2 LamX NdefX PpSet
/-! ## {e for a in xs if .. for b in ys if ..}, e a whole number: one clause's loop, whatever is done in it -/
end Bf
namespace Bf
open PySem PySem.Spec PyProof.Rows L2 LamX NdefX PpSet
section
variable {X : Cx}
end
end Bf
namespace Bf
open PySem PySem.Spec PyProof.Rows L2 LamX NdefX PpSet
section
variable {K : PySem.W.Frag} {T : List (Addr × Str)} {D : Addr} {po : Option Addr} {H H1 H' : Hp} {n n1 n' : Nat}
end
section
variable {K : PySem.W.Frag} {T : List (Addr × Str)} {ρ : List Sl}
variable {α β : Type} [Enc α] [Enc β]
end
end Bf
namespace Bf
open PySem PySem.Spec PyProof.Rows L2 LamX NdefX
/-! ## texts -/
section
variable {K : PySem.W.Frag} {T : List (Addr × Str)} {ρ : List Sl} {γ β : Type} [Enc γ] [Enc β]
/-! ### f-strings -/
inductive RJ (K : PySem.W.Frag) (T : List (Addr × Str)) (ρ : List Sl) : List TE → List (M Str) → Prop where
  | nil : RJ K T ρ [] []
  | cons {t : TE} {m : M Str} {f : Bool} {ts : List TE} {ms : List (M Str)} (h : RE K T t ρ f m) (r : RJ K T ρ ts ms) : RJ K T ρ (t :: ts) (m :: ms)
/-! ### numbers where None might stand, none there -/
end
end Bf
namespace Bf
open PySem PySem.Spec PyProof.Rows L2 LamX NdefX
/-! ## x, *xs = a list -/
section
variable {prog : Program} {w : World} {A : Around} {E : Value → Shared → Prop} {s : Shared}
end
section
variable {prog : Program} {w : World} {A : Around} {E : Value → Shared → Prop} {s : Shared}
end
section
variable {X : Cx}
end
section
variable {K : PySem.W.Frag} {T : List (Addr × Str)} {ρ : List Sl} {C : Option Addr → Prop}
variable {α R S B : Type} [Enc α] [Enc R] {ρn : S → List Sl} {ρb : B → List Sl}
end
end Bf
namespace Bf
open PySem PySem.Spec PyProof.Rows L2 LamX NdefX
/-! ## texts: what is None, what is a text, or with lists, + -/
section
variable {K : PySem.W.Frag} {T : List (Addr × Str)} {ρ : List Sl} {α : Type} [Enc α]
end
section
variable {K : PySem.W.Frag} {T : List (Addr × Str)} {ρ : List Sl} {C : Option Addr → Prop}
variable {α R S B : Type} [Enc α] {ρn : S → List Sl} {ρb : B → List Sl}
end
end Bf
namespace Bf
open PySem PySem.Spec PyProof.Rows L2 LamX NdefX
/-! ## x or y, x a tuple or None, y a tuple -/
section
variable {K : PySem.W.Frag} {T : List (Addr × Str)} {ρ : List Sl} {α : Type} [Enc α]
end
end Bf
/-! ## xs.extend(a tuple) -/
namespace PySem
open PySem PySem.Spec PyProof.Rows
end PySem
namespace Bf
open PySem PySem.Spec PyProof.Rows L2 LamX NdefX
section
variable {K : PySem.W.Frag} {T : List (Addr × Str)} {ρ : List Sl} {C : Option Addr → Prop}
variable {α R S B : Type} [Enc α] [Enc R] {ρn : S → List Sl} {ρb : B → List Sl}
end
end Bf
namespace Bf
open PySem PySem.Spec PyProof.Rows L2 LamX NdefX
/-! ## an item of a new list of lists -/
section
variable {K : PySem.W.Frag} {T : List (Addr × Str)} {ρ : List Sl} {β : Type} [Enc β]
end
end Bf
namespace Bf
open PySem PySem.Spec PyProof.Rows L2 LamX NdefX
section
variable {K : PySem.W.Frag} {α : Type} [Enc α]
end
end Bf
namespace Bf
open PySem PySem.Spec PyProof.Rows L2 LamX NdefX
/-! ## an error that is caught and kept -/
/-- at a: an error of class cls with its own dict d -/
def ErO (cls : Value) (d : Option Addr) (a : Addr) : HO := .ext fun h => ∃ (oe : Obj) (vs : Array Value), h.get? a = some oe ∧ Zc cls d oe ∧ oe.data = .fields vs
theorem erO_ok {P : Program} {w : World} {H : Hp} {h : Heap} {a : Addr} {cls : Value} {d : Option Addr} {oe : Obj} {vs : Array Value} (e : h.get? a = some oe) (z : Zc cls d oe) (dd : oe.data = .fields vs) : ObjOk P w H h a (ErO cls d a) :=
  ⟨⟨oe, vs, e, z, dd⟩, ⟨oe, e⟩, fun _ _ ⟨o, v, q, r⟩ k => ⟨o, v, k o q, r⟩⟩
section
variable {X : Cx} {pins : List (Addr × Obj)} {σ : L2.St} {H : Hp} {s : Shared}
end
section
variable {X : Cx} {x1 x2 n : Str} {c1 c2 : Value} {i : Nat} {body suite : List Stmt} {b₀ : Stmt} {kk : Nat} {np1 np2 tpos pos pos' : Pos} {tb : WX → TS} {ts : Addr → Value → Option Addr → TS}
end
end Bf
namespace PySem.W
open PySem PySem.Spec PySem.Calls PyProof.Rows
section
variable {prog : Program} {w : World} {A : Around} {E : Value → Shared → Prop} {s : Shared} {K : Frag} {x D : Addr} {ox : Obj} {od : Option Obj}
theorem findObj_dataO {C : Addr} {name : Str} {a g : Value} (hc : (clsIn K C).isSome = true) (ha : findIn K (.ref C) name = some (some a)) (hg : specialIn K a "__get__" = some (some g)) (ht : takesIn K a = some true) : findObj K C od name = some (.bind g a) := by
  obtain ⟨cd, hc⟩ := Option.isSome_iff_exists.mp hc
  unfold findObj
  rw [hc, Option.bind_some, ha, Option.bind_some]
  simp [hg, ht]
theorem kin_classEO {Q : Option Value → Shared → Prop} (hga : findIn K (.ref D) "__getattribute__" = some (some (.builtin "BaseException.__getattribute__"))) (hgt : findIn K (.ref D) "__getattr__" = some none) (hsub : subIn K (.ref D) (.type "BaseException") = some true)
    (hdct : hasDictIn K D = true) (ha : findIn K (.ref D) "__class__" = some (some (.builtin "object.__class__")))
    (hn : specialIn K (.builtin "object.__class__") "__get__" = some (some (.builtin "getset_descriptor.__get__"))) (htk : takesIn K (.builtin "object.__class__") = some true) (hm : mroIn K D (.type "object") = some true)
    (X : K.In s.heap) (I : InstAt s.heap x ox D od) (h : Q (some (.ref D)) { s with toks := s.toks + 1 }) : wpAny (model prog w) A (getAttr? (.ref x) "__class__") Q E s := by
  have hf : findObj K D od "__class__" = some (.bind (.builtin "getset_descriptor.__get__") (.builtin "object.__class__")) := findObj_dataO (by obtain ⟨cd, hc, _⟩ := any_some hdct; rw [hc]; rfl) ha hn htk
  obtain ⟨hp, g, d, t, os⟩ := s
  have L0 := I.type (M := model prog w)
  have L1 := looks_findIn (M := model prog w) X hga
  have L2 := looks_findIn (M := model prog w) X hgt
  have L3 := looks_find (M := model prog w) X I hf
  have sub : Looks (model prog w) hp (isInstance (.ref x) (.type "BaseException")) true := L0.andThen (looks_subIn X hsub)
  have hx0 : (false && onTheHeap (Value.builtin "BaseException.__getattribute__")) = false := rfl
  have hx2 : (Value.builtin "BaseException.__getattribute__" == Value.builtin "object.__getattribute__") = false := by decide +kernel
  have hx1 : (onTheHeap (Value.ref D) && Value.builtin "BaseException.__getattribute__" == Value.builtin "object.__getattribute__") = false := by rw [hx2]; rfl
  unfold getAttr? getAttrBy? getAttrBy
  refine wpAny_bind (wpAny_mkText (wpAny_bind (wpAny_attempt (wpAny_holding (wpAny_bind (L0.at (wpAny_bind (L1.at ?_))))))))
  show wpAny _ _ (if (onTheHeap (Value.ref D) && Value.builtin "BaseException.__getattribute__" == Value.builtin "object.__getattribute__") = true then _ else _) _ _ _
  rw [hx1, if_neg Bool.false_ne_true]
  unfold getAttrByItsOwn hookBefore
  refine wpAny_bind ?_
  rw [if_pos (show onTheHeap (Value.ref D) = true from rfl)]
  refine L2.at ?_
  refine wpAny_bind (wpAny_attempt (wpAny_holding ?_))
  unfold callGetattribute
  rw [hx0, if_neg Bool.false_ne_true]
  unfold boundAndCalled
  rw [PySem.F.excAttr_ValueError.ga.bind (.ref x)]
  refine wpAny_bind (wpAny_pure ?_)
  show wpAny _ _ (call (.builtin "BaseException.__getattribute__") [.ref x, .str "__class__" t]) _ _ _
  refine wpAny_call (codeAny_call_builtin PySem.F.excAttr_ValueError.ga.plain PySem.F.entry_bexc_ga ?_)
  refine @check_slot (model prog w) _ _ ⟨hp, g, d, t + 1, os⟩ "BaseException.__getattribute__" "BaseException" "__getattribute__" (.ref x) [.str "__class__" t] [] _ (by decide +kernel) (by decide +kernel) sub (PySem.F.args_bexc_ga (.ref x) (.str "__class__" t)) ?_
  unfold Builtin.«object.__getattribute__»
  refine wpAny_bind (wpAny_of_eq (a := ((Value.ref x : Value), [Value.str "__class__" t])) (by first | rfl | (simp only [slotArgs]; rfl)) ?_)
  refine wpAny_bind (wpAny_pure (wpAny_bind (L0.at (wpAny_bind (L3.at ?_)))))
  show wpAny _ _ (holding [Value.builtin "object.__class__"] (call (.builtin "getset_descriptor.__get__") [.builtin "object.__class__", .ref x, .ref D]) >>= ret) _ _ _
  refine wpAny_bind (wpAny_holding (wpAny_call (class_get (s := ⟨hp, g, d, t + 1, os⟩) (ox := ox) (od := od) X I hm ?_)))
  refine wpAny_pure ?_
  show wpAny _ _ (handedOut (.ref D)) _ _ _
  rw [handedOut_of (v := .ref D) rfl]
  first
    | exact wpAny_pure (wpAny_pure h)
    | exact wpAny_pure h
    | exact wpAny_pure (wpAny_bind (wpAny_pure (wpAny_pure h)))
theorem kitx_excO (hga : findIn K (.ref D) "__getattribute__" = some (some (.builtin "BaseException.__getattribute__"))) (hgt : findIn K (.ref D) "__getattr__" = some none) (hsub : subIn K (.ref D) (.type "BaseException") = some true) (hdct : hasDictIn K D = true) (ha : findIn K (.ref D) "__class__" = some (some (.builtin "object.__class__")))
    (hn : specialIn K (.builtin "object.__class__") "__get__" = some (some (.builtin "getset_descriptor.__get__"))) (htk : takesIn K (.builtin "object.__class__") = some true) (hm : mroIn K D (.type "object") = some true) :
    KitX K (.ref x) (.ref D) (fun h => ∃ ox od, InstAt h x ox D od) where
  ty := fun _ _ _ ⟨_, _, I⟩ => I.type
  it := fun _ _ X _ => by
    obtain ⟨cdD, hcD, _⟩ := any_some hdct
    unfold clsIn at hcD
    split at hcD
    · rename_i c' d' cd' sl' ho
      intro A' Q' E' s' k q
      unfold isType loadHead
      exact wpAny_bind (wpAny_loadPart (k _ _ (X _ _ ho)) (wpAny_pure q))
    · cases hcD
  ne := fun h tp dd its n sl X htp => by
    obtain ⟨cdD, hcD, _⟩ := any_some hdct
    refine Bool.eq_false_iff.mpr fun q => ?_
    have e : D = tp := Value.ref.inj (beq_iff_eq.mp q)
    subst e
    unfold clsIn at hcD
    split at hcD
    · rename_i c' d' cd' sl' ho
      have z := (X _ _ ho).symm.trans htp
      cases z
    · cases hcD
  ca := fun X ⟨_, _, I⟩ k => kin_classEO hga hgt hsub hdct ha hn htk hm X I k
end
end PySem.W
namespace Bf
open PySem PySem.Spec PyProof.Rows L2 LamX NdefX
section
variable {X : Cx} {pins : List (Addr × Obj)} {σ : L2.St} {H : Hp} {s : Shared}
/-- its own dict, if any, stands -/
def DxOk (H : Hp) (d : Option Addr) : Prop := ∀ dd, d = some dd → ∃ fs, H dd = some (.xd fs)
end
end Bf
namespace Bf
open PySem PySem.Spec PyProof.Rows L2 LamX NdefX
/-! ## X(), X rooted in LookupError; a method's error let through -/
theorem pmk_own0 {X : Cx} {C : Addr} {bmB : List Value} {B newId initId : String} {x : Str} {p pos : Pos} (F : ExcBaseFacts B newId initId bmB) (q : PySem.W.excIn X.K C bmB newId = true) (gC : X.mg x = some (.ref C)) (kC : PySem.W.keepIn X.K (.ref C) = true) (r : Raises X (.ref C)) (hg : Gl X x)
    (hdb : (x == ("__debug__" : Str)) = false := by decide) : PMk X (.Call (.Name x p) [] [] pos) (fun _ H Q => Q (.ref C) none H) := by
  intro pins s σ H Q I h
  refine wpAny_Call_Name_kw (ld_glob I hg gC ?_ hdb)
  refine PySem.W.callWith_K0 (first := []) I.kIn kC ?_
  show wpAny _ _ (call (.ref C) []) _ _ _
  obtain ⟨bm, N, nm, qn, bs, hdct, sn, sub, ab, col, dd, k0, k1, k2, k3, k5, mN, hC, hN, hni, T⟩ := exc_obj I.kIn q
  refine wpAny_call_exc_subT F T hC hN hni (fun h' e hm => ?_) (by show 0 ≤ sizeLine; exact Nat.zero_le _)
  exact L2.mk_of I hm r h (I.hok.gone hm.new)
/-- what the written part says of an error without words, rooted in LookupError -/
structure IdK (K : PySem.W.Frag) (mg : Str → Option Value) (n : Str) (C : Addr) : Prop where
  q : PySem.W.excIn K C [.type "LookupError", .type "Exception", .type "BaseException", .type "object"] "LookupError.__new__" = true
  kp : PySem.W.keepIn K (.ref C) = true
  s1 : PySem.W.subIn K (.ref C) (.type "BaseException") = some true
  t1 : PySem.W.typeIn K (.ref C) = some (.type "type")
  ex : PySem.W.exmOne K (.ref C) (.ref C) = some true
  g : mg n = some (.ref C)
end Bf
namespace Bf
open PySem PySem.Spec PyProof.Rows L2 LamX NdefX
/-! ## data of any kind, that nobody changes -/
section
variable {X : Cx} {pins : List (Addr × Obj)} {σ : L2.St} {H : Hp} {s : Shared}
theorem Inv.fz2 {d : Addr} {u : HO} (I : Inv X pins σ H s) (h : H d = some u) (mu : Mut (some u)) : ∃ od, Inv X pins σ (upd H d (.frz od (.frz od u))) s := by
  have x := I.hok d u h
  have ex : ∃ od, s.heap.get? d = some od := by
    cases u with
    | lst xs => obtain ⟨_, _, _, _, e⟩ := x; exact ⟨_, e⟩
    | dK kvs => obtain ⟨_, _, _, _, o, _, _, e, _⟩ := x; exact ⟨o, e⟩
    | dT kvs => obtain ⟨_, _, _, _, o, _, _, e, _⟩ := x; exact ⟨o, e⟩
    | set S n => obtain ⟨o, _, _, _, e, _⟩ := x; exact ⟨o, e⟩
    | ins C dx fs => obtain ⟨_, _, _, e, _⟩ := x; exact ⟨_, e⟩
    | ext φ => obtain ⟨_, ⟨_, e⟩, _⟩ := x; exact ⟨_, e⟩
    | _ => exact False.elim mu
  obtain ⟨od, e⟩ := ex
  have new : ObjOk X.prog X.w (upd H d (.frz od (.frz od u))) s.heap d (.frz od (.frz od u)) := by
    refine ⟨e, e, x.stay (fun b v _ q => q) (fun b q => ?_) fun b xs q => ?_⟩
    · rw [upd_ne (fun z => by rw [z, h] at q; cases q; exact mu)]; exact q
    · rw [upd_ne (fun z => by rw [z, h] at q; cases q; exact mu)]; exact q
  exact ⟨od, I.write (x := d) (e := d) (t' := s.toks) (h' := s.heap) (by rw [h]; exact mu) (.inl rfl) (fun b v _ q => q) ⟨od, e⟩ new⟩
end
/-- from now on nobody changes this list -/
def tFz (t : TE) : TE := fun σ H Q => t σ H fun v H1 => ∃ (d : Addr) (xs : List V), v = .ref d ∧ H1 d = some (.lst xs) ∧ ∀ od, Q v (upd H1 d (.frz od (.lst xs)))
/-- .. this dict -/
def tFzD (t : TE) : TE := fun σ H Q => t σ H fun v H1 => ∃ (d : Addr) (kvs : List (Key × V)), v = .ref d ∧ H1 d = some (.dK kvs) ∧ ∀ od, Q v (upd H1 d (.frz od (.frz od (.dK kvs))))
theorem pe_fz {X : Cx} {e : Expr} {t : TE} (h : PE X e t) : PE X e (tFz t) := by
  refine ⟨fun pins s σ H Q I hw => ?_⟩
  refine thn (h.run pins s σ _ _ I hw) fun v s1 ⟨x, H1, I1, r, d, xs, ex, hd, q⟩ => ?_
  obtain ⟨od, I2⟩ := I1.lock hd trivial
  exact ⟨x, _, I2, r, q od⟩
theorem pe_fzD {X : Cx} {e : Expr} {t : TE} (h : PE X e t) : PE X e (tFzD t) := by
  refine ⟨fun pins s σ H Q I hw => ?_⟩
  refine thn (h.run pins s σ _ _ I hw) fun v s1 ⟨x, H1, I1, r, d, xs, ex, hd, q⟩ => ?_
  obtain ⟨od, I2⟩ := Inv.fz2 I1 hd trivial
  exact ⟨x, _, I2, r, q od⟩
structure Ad where
  d : PyData
instance : Enc Ad := ⟨fun a => .dict [(.str "any", a.d)]⟩
theorem im_ad {K : PySem.W.Frag} {H : Hp} {v : V} {a : Ad} {fp : List Addr} (h : Im K H v (enc a) fp) : fp = [] ∧ Av H v a.d := by
  have h : Im K H v (.dict [(.str "any", a.d)]) fp := h
  generalize hd : a.d = d at h ⊢
  generalize hp : [(PyData.str "any", d)] = ps at h
  cases h with
  | any z => obtain rfl := congrArg Prod.snd (List.cons.inj hp).1; exact ⟨rfl, z⟩
  | dicT e e1 e2 hA q =>
    subst hp
    rename_i kvs _ _
    cases kvs with
    | nil => cases e1
    | cons x xs => cases (List.cons.inj e1).1
  | dicK => cases congrArg Prod.fst (List.cons.inj hp).1
  | pin => cases congrArg Prod.fst (List.cons.inj hp).1
  | err => cases (List.cons.inj hp).2
  | err0 => exact absurd (PyData.str.inj (congrArg Prod.fst (List.cons.inj hp).1)) (by decide)
  | ins em e e1 e2 hA q =>
    have e := congrArg Prod.fst (List.cons.inj hp).1
    rcases em with rfl | rfl <;> cases e
instance : Pu Ad := ⟨fun h => (im_ad h).1⟩
theorem ad_im {K : PySem.W.Frag} {H : Hp} {v : V} {a : Ad} (h : Av H v a.d) : Im K H v (enc a) [] := .any h
/-! ### what kinds are turned into it -/
class ToA (α : Type) [Enc α] where
  ad : α → PyData
  to : ∀ {K : PySem.W.Frag} {H : Hp} {v : V} {a : α}, Im K H v (enc a) [] → Av H v (ad a)
instance : ToA Nat := ⟨fun n => .int (n : Int), fun h => by cases h; exact .int _⟩
instance : ToA Int := ⟨fun n => .int n, fun h => by cases h; exact .int _⟩
instance : ToA Bool := ⟨fun n => .bool n, fun h => by cases h; exact .bl _⟩
instance : ToA Unit := ⟨fun _ => .none, fun h => by cases h; exact .non⟩
instance : ToA Str := ⟨fun n => .str n, fun h => by cases h; exact .str _⟩
instance : ToA Ad := ⟨fun n => n.d, fun h => (im_ad h).2⟩
instance {α : Type} [Enc α] [ToA α] : ToA (Option α) := ⟨fun x => match x with | none => .none | some a => ToA.ad a, fun {K H v a} h => by
  cases a with
  | none => cases h; exact .non
  | some a => exact ToA.to (a := a) h⟩
theorem app_nil2 {fp fq : List Addr} (h : [] = fp ++ fq) : fp = [] ∧ fq = [] := List.append_eq_nil_iff.mp h.symm
instance {α β : Type} [Enc α] [ToA α] [Enc β] [ToA β] : ToA (α × β) := ⟨fun x => .tuple [ToA.ad x.1, ToA.ad x.2], fun {K H v a} h => by
  cases h with
  | tup e b =>
    obtain ⟨v, w, f1, f2, rfl, h1, h2, q⟩ := ima2 b
    obtain ⟨rfl, rfl⟩ := app_nil2 q
    exact .tup e (.cons (ToA.to h1) (.cons (ToA.to h2) .nil))⟩
instance {α β γ : Type} [Enc α] [ToA α] [Enc β] [ToA β] [Enc γ] [ToA γ] : ToA (T3 α β γ) := ⟨fun x => .tuple [ToA.ad x.a, ToA.ad x.b, ToA.ad x.c], fun {K H v a} h => by
  cases h with
  | tup e b =>
    obtain ⟨v, w, u, f1, f2, f3, rfl, h1, h2, h3, q⟩ := ima3 b
    obtain ⟨z1, z2⟩ := app_nil2 q
    obtain ⟨z3, z4⟩ := app_nil2 z2.symm
    subst z1 z3 z4
    exact .tup e (.cons (ToA.to h1) (.cons (ToA.to h2) (.cons (ToA.to h3) .nil)))⟩
theorem toA_all {α : Type} [Enc α] [ToA α] {K : PySem.W.Frag} {H : Hp} : ∀ {xs : List α} {vs : List V} {fp : List Addr}, ImA K H vs (xs.map enc) fp → fp = [] → AvA H vs (xs.map ToA.ad)
  | [], _, _, h, _ => by cases h; exact .nil
  | x :: xs, _, _, h, z => by
    subst z
    cases h with
    | cons a b q =>
      obtain ⟨rfl, rfl⟩ := app_nil2 q
      exact .cons (ToA.to a) (toA_all b rfl)
instance {α : Type} [Enc α] [ToA α] : ToA (List α) := ⟨fun x => .tuple (x.map ToA.ad), fun {K H v a} h => by
  cases h with
  | tup e b => exact .tup e (toA_all b rfl)⟩
section
variable {K : PySem.W.Frag} {T : List (Addr × Str)} {ρ : List Sl} {α β : Type} [Enc α] [Enc β]
theorem re_ad [Pu α] [ToA α] {t : TE} {m : M α} {f : Bool} (h : RE K T t ρ f m) : RE K T t ρ true (mapW (fun a : α => (⟨ToA.ad a⟩ : Ad)) m) := fun Bs po φ σ H n st P p Q q =>
  h Bs po φ σ H n st _ p _ fun a n1 v H1 fp pa a1 i1 g1 => by
    have z := Pu.pu i1
    subst z
    exact q _ n1 v H1 [] pa a1 (ad_im (ToA.to i1)) Fp.nil
theorem fz_af {po : Option Addr} {Bs : Addr → HO → Prop} {φ : Nat → List Addr} {σ : L2.St} {H H1 : Hp} {n n1 : Nat} {d : Addr} {u u' : HO} (st : ST K T Bs po ρ φ σ H n) (a1 : Af K T po H n H1 n1) (f : Fsh H d) (e : H1 d = some u) (hm : Mtb u) : Af K T po H n (upd H1 d u') n1 := by
  have nd : ∀ b o, H b = some o → (∀ ps, o ≠ .tbl ps) → b ≠ d := fun b o hb t z => by
    obtain ⟨ps, q⟩ := f o (by rw [← z]; exact hb)
    exact t ps q
  refine ⟨⟨fun b o hb h t => ?_, fun b c h => ?_⟩, fun t => tabs_updM (a1.tabs t) e hm, fun a ea p => ?_⟩
  · rw [upd_ne (nd b o h t)]
    exact a1.fr.keep b o hb h t
  · show upd H1 d u' b = some c.ho
    rw [upd_ne (nd b _ h c.nt)]
    exact a1.fr.tup b c h
  · obtain ⟨l, hl⟩ := pot_lst p
    have z := a1.pot a ea p
    obtain ⟨x, y, w, hH, hh⟩ := z
    exact ⟨x, y, w, by rw [upd_ne (nd a _ hl fun ps z => nomatch z)]; exact hH, hh⟩
theorem av_upd {H1 : Hp} {d : Addr} {u u' : HO} {v : V} {x : PyData} (e : H1 d = some u) (hm : Mtb u) (h : Av H1 v x) : Av (upd H1 d u') v x := h.stab fun b c q => by
  show upd H1 d u' b = some c.ho
  rw [upd_ne (fun z => by unfold TupX at q; rw [z, e] at q; obtain rfl := Option.some.inj q; exact c.nm hm)]
  exact q
theorem AvA.stab {H H' : Hp} (ht : ∀ b c, TupX H b c → TupX H' b c) : ∀ {vs : List V} {ds : List PyData}, AvA H vs ds → AvA H' vs ds
  | _, _, .nil => .nil
  | _, _, .cons a b => .cons (a.stab ht) (AvA.stab ht b)
theorem upd_tx {H1 : Hp} {d : Addr} {u u' : HO} (e : H1 d = some u) (hm : Mtb u) : ∀ b c, TupX H1 b c → TupX (upd H1 d u') b c := fun b c q => by
  show upd H1 d u' b = some c.ho
  rw [upd_ne (fun z => by unfold TupX at q; rw [z, e] at q; obtain rfl := Option.some.inj q; exact c.nm hm)]
  exact q
/-- a new list, for good -/
theorem re_fzL [Pu α] [ToA α] {t : TE} {m : M (Lst α)} (h : RE K T t ρ true m) : RE K T (tFz t) ρ true (mapW (fun xs : Lst α => (⟨.list (xs.l.map ToA.ad)⟩ : Ad)) m) := fun Bs po φ σ H n st P p Q q =>
  h Bs po φ σ H n st _ p _ fun xs n1 v H1 fp pa a1 i1 g1 => by
    obtain ⟨a, vs, fq, rfl, hT, hA, eφ⟩ := im_lst i1
    have z := ima_pu hA
    subst z
    have fa := (g1.2 rfl).2 a (by rw [eφ]; exact List.mem_cons_self)
    refine ⟨a, vs, rfl, hT, fun od => q _ n1 _ _ [] pa (fz_af st a1 fa hT trivial) (ad_im (.lst (o := od) (xs := vs) upd_same ((toA_all hA rfl).stab (upd_tx hT trivial)))) Fp.nil⟩
end
end Bf
namespace Bf
open PySem PySem.Spec PyProof.Rows L2 LamX NdefX
/-- what repr of a thing with a place does -/
def TopR (P : Program) (w : World) (h : Heap) (d : PyData) (u : Value) : Prop := ∀ a, u = .ref a → ∃ T idr, SlotG T "__repr__" idr ∧ (∀ s : Shared, (∀ b o, h.get? b = some o → s.heap.get? b = some o) → s.TypeIs (.ref a) T) ∧
  ∀ (A : Around) (E : Value → Shared → Prop) (s : Shared) (Q : Value → Shared → Prop), A.guards = some [] → A.units + d.depth < cLine → (∀ b o, h.get? b = some o → s.heap.get? b = some o) →
    (∀ h' x tk, (∀ b o, s.heap.get? b = some o → h'.get? b = some o) → Q (.str d.shown x) { s with heap := h', toks := tk }) → wpAny (model P w) A (call (.builtin idr) [.ref a]) Q E s
structure Shw (P : Program) (w : World) (h : Heap) (d : PyData) (u : Value) : Prop where
  rd : ∃ as, Reads h u d as
  rk : ∃ bs, ReadAtMost h d.depth bs ∧ ReprK P w bs h d.depth u d.shown
  top : TopR P w h d u
structure ShwA (P : Program) (w : World) (h : Heap) (ds : List PyData) (us : List Value) : Prop where
  rd : ∃ as, ReadsAll h us ds as
  rk : ∃ bs, ReadAtMost h (PyData.depthAll ds) bs ∧ ReprAllK P w bs h (PyData.depthAll ds) us (PyData.shownAll ds)
section
variable {P : Program} {w : World} {h : Heap}
theorem topR_no {d : PyData} {u : Value} (n : ∀ a, u ≠ .ref a) : TopR P w h d u := fun a e => absurd e (n a)
theorem shw_cons {d : PyData} {ds : List PyData} {u : Value} {us : List Value} (x : Shw P w h d u) (y : ShwA P w h ds us) : ShwA P w h (d :: ds) (u :: us) := by
  obtain ⟨as, ra⟩ := x.rd
  obtain ⟨cs, rc⟩ := y.rd
  obtain ⟨b1, m1, k1⟩ := x.rk
  obtain ⟨b2, m2, k2⟩ := y.rk
  have l1 : d.depth ≤ PyData.depthAll (d :: ds) := Nat.le_max_left _ _
  have l2 : PyData.depthAll ds ≤ PyData.depthAll (d :: ds) := Nat.le_max_right _ _
  refine ⟨⟨_, .cons ra rc⟩, b1 ++ b2, (m1.mono l1).append (m2.mono l2), ?_⟩
  have e1 := (k1.more (as' := b1 ++ b2) fun b hb => List.mem_append.mpr (.inl hb)).level_le l1
  have e2 := k2.more_le (as' := b1 ++ b2) (fun b hb => List.mem_append.mpr (.inr hb)) l2
  exact .cons e1 e2
theorem shw_list {a : Addr} {o : Obj} {us : List Value} {n : Nat} {ds : List PyData} (e : h.get? a = some o) (ec : o.cls = .type "list") (ed : o.data = .seq us.toArray n) (z : (PyData.list ds).shown.length ≤ sizeLine) (y : ShwA P w h ds us) : Shw P w h (.list ds) (.ref a) := by
  obtain ⟨as, ra⟩ := y.rd
  obtain ⟨b1, m1, k1⟩ := y.rk
  have sh : (PyData.list ds).shown = listText (PyData.shownAll ds) := by rw [PyData.shown]
  have dp : (PyData.list ds).depth = PyData.depthAll ds + 1 := by rw [PyData.depth]
  have r : Reads h (.ref a) (.list ds) (a :: as) := .list e ec ed ra
  have na : a ∉ b1 := not_mem_of_deeper r (by omega) m1
  rw [sh] at z
  have TI : ∀ s : Shared, (∀ b o, h.get? b = some o → s.heap.get? b = some o) → s.TypeIs (.ref a) "list" := fun s k => ⟨o, k a o e, ec⟩
  refine ⟨⟨_, r⟩, ⟨a :: b1, ReadAtMost.cons r (by omega) m1, ?_⟩, fun a' ea => ?_⟩
  · rw [sh, dp]
    cases us with
    | nil =>
      cases ra
      rw [PyData.shownAll, listText_nil]
      exact ReprK.listEmpty e ec ed
    | cons x l => exact ReprK.list e ec ed na (by have := k1.length_eq; simpa using this) fun i y q => k1.item i y (by simpa using q)
  · cases ea
    refine ⟨"list", "list.__repr__", F.slot_list_repr.toG, TI, fun A E s Q hg hu hk q => ?_⟩
    rw [dp] at hu
    rw [sh] at q
    cases us with
    | nil =>
      cases ra
      rw [PyData.shownAll, listText_nil] at q
      exact call_list_repr_empty (TI s hk) (hk a o e) ed (q s.heap _ _ fun _ _ c => c)
    | cons x l => exact call_list_reprK e ec ed na (by have := k1.length_eq; simpa using this) (fun i y c => k1.item i y (by simpa using c)) hg (fun b _ => Clear.nil b) hu hk q z
theorem shw_tuple {a : Addr} {o : Obj} {us : List Value} {n : Nat} {ds : List PyData} (e : h.get? a = some o) (ec : o.cls = .type "tuple") (ed : o.data = .seq us.toArray n) (z : (PyData.tuple ds).shown.length ≤ sizeLine) (y : ShwA P w h ds us) : Shw P w h (.tuple ds) (.ref a) := by
  obtain ⟨as, ra⟩ := y.rd
  obtain ⟨b1, m1, k1⟩ := y.rk
  have sh : (PyData.tuple ds).shown = tupleText (PyData.shownAll ds) := by rw [PyData.shown]
  have dp : (PyData.tuple ds).depth = PyData.depthAll ds + 1 := by rw [PyData.depth]
  have r : Reads h (.ref a) (.tuple ds) as := .tuple e ec ed ra
  have na : a ∉ b1 := not_mem_of_deeper r (by omega) m1
  rw [sh] at z
  refine ⟨⟨_, r⟩, ⟨a :: b1, ReadAtMost.cons r (by omega) m1, ?_⟩, fun a' ea => ?_⟩
  · rw [sh, dp]
    exact ReprK.tuple e ec ed na k1
  · cases ea
    refine ⟨"tuple", "tuple.__repr__", F.slot_tuple_repr, fun s k => ⟨o, k a o e, ec⟩, fun A E s Q hg hu hk q => ?_⟩
    rw [dp] at hu
    rw [sh] at q
    exact call_tuple_reprK e ec ed na k1 hg (fun b _ => Clear.nil b) hu hk q z
theorem shw_dict {a : Addr} {o : Obj} {es : Array DictEntry} {n : Nat} {kvs : List (PyData × PyData)} (e : h.get? a = some o) (ec : o.cls = .type "dict") (ed : o.data = .dict es n) (ns : (a == sysModules) = false) (z : (PyData.dict kvs).shown.length ≤ sizeLine) (y : ShwA P w h (kvs.map (·.1)) (es.toList.map (·.key))) (x : ShwA P w h (kvs.map (·.2)) (es.toList.map (·.val))) : Shw P w h (.dict kvs) (.ref a) := by
  obtain ⟨as, ra⟩ := y.rd
  obtain ⟨cs, rc⟩ := x.rd
  obtain ⟨b1, m1, k1⟩ := y.rk
  obtain ⟨b2, m2, k2⟩ := x.rk
  have sh : (PyData.dict kvs).shown = dictText (List.zipWith (fun k v : Str => k ++ ": " ++ v) (PyData.shownAll (kvs.map (·.1))) (PyData.shownAll (kvs.map (·.2)))) := by rw [PyData.shown, PyData.shownKv_eq]
  have dp : (PyData.dict kvs).depth = PyData.depthKv kvs + 1 := by rw [PyData.depth]
  have r : Reads h (.ref a) (.dict kvs) (a :: as ++ cs) := .dict e ec ed ra rc
  have m : ReadAtMost h (PyData.depthKv kvs) (b1 ++ b2) := (m1.mono (PyData.depthAll_keys_le kvs)).append (m2.mono (PyData.depthAll_vals_le kvs))
  have na : a ∉ b1 ++ b2 := not_mem_of_deeper r (by omega) m
  rw [sh] at z
  have both := ReprEntriesK.of_two es.toList _ _ (k1.more_le (as' := b1 ++ b2) (fun b hb => List.mem_append.mpr (.inl hb)) (PyData.depthAll_keys_le kvs)) (k2.more_le (as' := b1 ++ b2) (fun b hb => List.mem_append.mpr (.inr hb)) (PyData.depthAll_vals_le kvs))
  refine ⟨⟨_, r⟩, ⟨a :: (b1 ++ b2), ReadAtMost.cons r (by omega) m, ?_⟩, fun a' ea => ?_⟩
  · rw [sh, dp]
    exact ReprK.dict e ec ed ns na both
  · cases ea
    refine ⟨"dict", "dict.__repr__", F.slot_dict_repr, fun s k => ⟨o, k a o e, ec⟩, fun A E s Q hg hu hk q => ?_⟩
    rw [dp] at hu
    rw [sh] at q
    exact call_dict_reprK e ec ed ns na both hg (fun b _ => Clear.nil b) hu hk q z
theorem shw_nil : ShwA P w h [] [] := ⟨⟨_, .nil⟩, [], (fun _ z => nomatch z), by rw [PyData.shownAll]; exact .nil⟩
end
theorem shown_mem {d : PyData} : ∀ {ds : List PyData}, d ∈ ds → d.shown ∈ PyData.shownAll ds
  | e :: ds, hm => by
    rw [PyData.shownAll]
    rcases List.mem_cons.mp hm with rfl | hm
    · exact List.mem_cons_self
    · exact List.mem_cons_of_mem _ (shown_mem hm)
section
variable {X : Cx} {pins : List (Addr × Obj)} {σ : L2.St} {H : Hp} {s : Shared}
theorem kvs_pairs {P : Program} {w : World} : ∀ {kvs : List (Key × V)} {vs : List (Key × Value)} {es : List DictEntry}, KV kvs vs → Pairs (mixKind P w) es vs → Vals (kvs.map Prod.snd) (es.map (·.val)) ∧ Vals (kvs.map fun kv => kV kv.1) (es.map (·.key))
  | [], _, _, .nil, .nil => ⟨.nil, .nil⟩
  | _ :: _, _, _, .cons r rs, .cons k ev p => by
    obtain ⟨h1, h2⟩ := kvs_pairs rs p
    refine ⟨.cons (by dsimp only; rw [ev]; exact r.2) h1, .cons ?_ h2⟩
    dsimp only
    rw [r.1]
    rcases keyIs_shape k with ⟨i, t, e1, e2⟩ | ⟨x, t, e1, e2⟩
    · rw [e1, e2]; exact ⟨t, rfl⟩
    · rw [e1, e2]; exact ⟨t, rfl⟩
theorem keys_shw {P : Program} {w : World} {h : Heap} : ∀ {ks : List Key} {us : List Value}, Vals (ks.map kV) us → (∀ d ∈ ks.map kD, d.showable = true ∧ d.shown.length ≤ sizeLine) → ShwA P w h (ks.map kD) us
  | [], _, .nil, _ => shw_nil
  | k :: ks, _, .cons r rs, hz => by
    have z0 := hz (kD k) List.mem_cons_self
    refine shw_cons ?_ (keys_shw rs fun d hd => hz d (List.mem_cons_of_mem _ hd))
    cases k with
    | inl i =>
      obtain ⟨t, rfl⟩ := r
      refine ⟨⟨_, .int i t⟩, ⟨[], (fun _ z => nomatch z), ?_⟩, topR_no fun a z => nomatch z⟩
      show ReprK P w [] h (PyData.int i).depth _ (PyData.int i).shown
      simp only [PyData.shown]
      exact .of_is (ReprIs.int t (by have := z0.1; simpa [kD, PyData.showable] using this)) _ _ _
    | inr x =>
      obtain ⟨t, rfl⟩ := r
      refine ⟨⟨_, .str x t⟩, ⟨[], (fun _ z => nomatch z), ?_⟩, topR_no fun a z => nomatch z⟩
      show ReprK P w [] h (PyData.str x).depth _ (PyData.str x).shown
      simp only [PyData.shown]
      exact .of_is (ReprIs.str x t (by have := z0.2; simpa only [kD, PyData.shown] using this)) _ _ _
theorem showAll_mem {ds : List PyData} (q : PyData.showableAll ds = true) : ∀ d ∈ ds, d.showable = true := by
  induction ds with
  | nil => intro d hd; cases hd
  | cons x xs ih =>
    intro d hd
    have q' : x.showable = true ∧ PyData.showableAll xs = true := by simpa [PyData.showableAll] using q
    rcases List.mem_cons.mp hd with rfl | hd
    · exact q'.1
    · exact ih q'.2 d hd
theorem Av.shw (I : Inv X pins σ H s) {v : V} {d : PyData} (h : Av H v d) : ∀ u, RelV v u → d.showable = true → d.shown.length ≤ sizeLine → Shw X.prog X.w s.heap d u := by
  refine Av.rec (motive_1 := fun v d _ => ∀ u, RelV v u → d.showable = true → d.shown.length ≤ sizeLine → Shw X.prog X.w s.heap d u)
    (motive_2 := fun vs ds _ => ∀ us, Vals vs us → PyData.showableAll ds = true → (∀ d ∈ ds, d.shown.length ≤ sizeLine) → ShwA X.prog X.w s.heap ds us) ?_ ?_ ?_ ?_ ?_ ?_ ?_ ?_ ?_ h
  · intro u r _ _
    cases r
    exact ⟨⟨_, .none⟩, ⟨[], (fun _ z => nomatch z), by simp only [PyData.shown]; exact .of_is ReprIs.none _ _ _⟩, topR_no fun a z => nomatch z⟩
  · intro b u r _ _
    cases r
    exact ⟨⟨_, .bool b⟩, ⟨[], (fun _ z => nomatch z), by simp only [PyData.shown]; exact .of_is (ReprIs.bool b) _ _ _⟩, topR_no fun a z => nomatch z⟩
  · intro i u r hs _
    obtain ⟨t, rfl⟩ := r
    exact ⟨⟨_, .int i t⟩, ⟨[], (fun _ z => nomatch z), by simp only [PyData.shown]; exact .of_is (ReprIs.int t (by simpa [PyData.showable] using hs)) _ _ _⟩, topR_no fun a z => nomatch z⟩
  · intro x u r _ hz
    obtain ⟨t, rfl⟩ := r
    exact ⟨⟨_, .str x t⟩, ⟨[], (fun _ z => nomatch z), by simp only [PyData.shown]; exact .of_is (ReprIs.str x t (by simpa only [PyData.shown] using hz)) _ _ _⟩, topR_no fun a z => nomatch z⟩
  · intro a o xs ds e ha ih u r hs hz
    cases r
    obtain ⟨e1, z, its, n, rv, e2⟩ := I.hok _ _ e
    exact shw_list e2 rfl rfl hz (ih its rv (by simpa [PyData.showable] using hs) fun d hd => Nat.le_trans (listText_mem_le (shown_mem hd)) (by rw [PyData.shown] at hz; exact hz))
  · intro a xs ds e ha ih u r hs hz
    cases r
    obtain ⟨z, its, rv, o, e2, ec, n, ed⟩ := I.hok _ _ e
    exact shw_tuple e2 ec ed hz (ih its rv (by simpa [PyData.showable] using hs) fun d hd => Nat.le_trans (tupleText_mem_le (shown_mem hd)) (by rw [PyData.shown] at hz; exact hz))
  · intro a o p kvs ps ds e p1 p2 ha ih u r hs hz
    cases r
    obtain ⟨e1, e0, zl, ns, vs, kv, oo, es, ep, e2, ex, ed, ko, pr, nd⟩ := I.hok _ _ e
    obtain ⟨q1, q2⟩ := kvs_pairs kv pr
    obtain ⟨hs1, hs2⟩ := PyData.showableKv_split ps (by simpa [PyData.showable] using hs)
    have hz' : (dictText (PyData.shownKv ps)).length ≤ sizeLine := by rw [PyData.shown] at hz; exact hz
    have keyz : ∀ d ∈ ps.map (·.1), d.shown.length ≤ sizeLine := fun d hd => by
      obtain ⟨p, hp, hl⟩ := PyData.shownKv_key_le ps _ (shown_mem hd)
      exact Nat.le_trans hl (Nat.le_trans (dictText_mem_le hp) hz')
    have valz : ∀ d ∈ ps.map (·.2), d.shown.length ≤ sizeLine := fun d hd => by
      obtain ⟨p, hp, hl⟩ := PyData.shownKv_val_le ps _ (shown_mem hd)
      exact Nat.le_trans hl (Nat.le_trans (dictText_mem_le hp) hz')
    refine shw_dict e2 ex.1 ed ns hz ?_ ?_
    · have hk : ps.map (·.1) = (kvs.map Prod.fst).map kD := by rw [List.map_map]; exact p1
      rw [hk] at keyz hs1 ⊢
      exact keys_shw (by rw [List.map_map]; exact q2) fun d hd => ⟨showAll_mem hs1 d hd, keyz d hd⟩
    · have hp2 : ps.map (·.2) = ds := p2
      rw [hp2] at valz hs2 ⊢
      exact ih _ q1 hs2 valz
  · intro us r _ _
    cases r
    exact shw_nil
  · intro v vs d ds a b ih1 ih2 us r hs hz
    cases r with
    | cons r1 r2 =>
      have q' : d.showable = true ∧ PyData.showableAll ds = true := by simpa [PyData.showableAll] using hs
      exact shw_cons (ih1 _ r1 q'.1 (hz d List.mem_cons_self)) (ih2 _ r2 q'.2 fun e he => hz e (List.mem_cons_of_mem _ he))
end
/-- a thing's repr -/
def ShOk (d : PyData) : Prop := d.showable = true ∧ d.depth < 60 ∧ d.shown.length ≤ sizeLine
section
variable {K : PySem.W.Frag} {T : List (Addr × Str)} {ρ : List Sl}
end
end Bf
namespace Bf
open PySem PySem.Spec PyProof.Rows L2 LamX NdefX
/-! ## isinstance of a thing of any kind -/
/-! ## a thing of any kind is of this kind -/
class OfA (α : Type) [Enc α] [ToA α] : Prop where
  of : ∀ {K : PySem.W.Frag} {H : Hp} {v : V} {a : α}, Av H v (ToA.ad a) → Im K H v (enc a) []
instance : OfA Nat := ⟨fun {K H v a} h => by have h : Av H v (.int (a : Int)) := h; cases h; exact .int _⟩
instance : OfA Int := ⟨fun {K H v a} h => by have h : Av H v (.int a) := h; cases h; exact .int _⟩
instance : OfA Bool := ⟨fun {K H v a} h => by have h : Av H v (.bool a) := h; cases h; exact .bl _⟩
instance : OfA Unit := ⟨fun {K H v a} h => by have h : Av H v .none := h; cases h; exact .non⟩
instance : OfA Str := ⟨fun {K H v a} h => by have h : Av H v (.str a) := h; cases h; exact .str _⟩
instance : OfA Ad := ⟨fun h => .any h⟩
theorem ofA_all {α : Type} [Enc α] [ToA α] [OfA α] {K : PySem.W.Frag} {H : Hp} : ∀ {xs : List α} {vs : List V}, AvA H vs (xs.map ToA.ad) → ImA K H vs (xs.map enc) []
  | [], _, h => by cases h; exact .nil
  | x :: xs, _, h => by
    cases h with
    | cons a b => exact .cons (OfA.of a) (ofA_all b) rfl
instance {α : Type} [Enc α] [ToA α] [OfA α] : OfA (List α) := ⟨fun {K H v a} h => by
  have h : Av H v (.tuple (a.map ToA.ad)) := h
  cases h with
  | tup e b => exact .tup e (ofA_all b)⟩
instance {α β : Type} [Enc α] [ToA α] [Enc β] [ToA β] [OfA α] [OfA β] : OfA (α × β) := ⟨fun {K H v a} h => by
  have h : Av H v (.tuple [ToA.ad a.1, ToA.ad a.2]) := h
  cases h with
  | tup e b =>
    cases b with
    | cons b1 b =>
      cases b with
      | cons b2 b =>
        cases b
        exact .tup e (.cons (OfA.of b1) (.cons (OfA.of b2) .nil rfl) rfl)⟩
structure A1 where
  a_ : Ad
instance : Enc A1 := ⟨fun s => rcD ["a"] [enc s.a_]⟩
instance : Rc A1 where
  ns := ["a"]
  fl := fun s => [enc s.a_]
  en := fun _ => rfl
  ln := fun _ => rfl
section
variable {K : PySem.W.Frag} {T : List (Addr × Str)} {ρ : List Sl} {α : Type} [Enc α]
/-- {} -/
theorem re_fzD0 : RE K T (tFzD tDNewK) ρ true (retW (⟨.dict []⟩ : Ad)) := fun Bs po φ σ H n st P p Q q => fun t nt => by
  refine ⟨t, [], rfl, upd_same, fun od => ?_⟩
  rw [upd_upd]
  have s := same_new (Same.refl H) nt (o := .frz od (.frz od (.dK [])))
  exact q _ n _ _ [] p (Af.same s) (ad_im (.dic (o := od) (p := od) (kvs := []) (ps := []) (ds := []) upd_same rfl rfl .nil)) Fp.nil
/-- {"a": x} -/
theorem re_fzA1 {t : TE} {m : M A1} (h : RE K T t ρ true m) : RE K T (tFzD t) ρ true (mapW (fun s : A1 => (⟨.dict [(.str "a", s.a_.d)]⟩ : Ad)) m) := fun Bs po φ σ H n st P p Q q =>
  h Bs po φ σ H n st _ p _ fun x n1 v H1 fp pa a1 i1 g1 => by
    obtain ⟨a, kvs, fq, rfl, o, eφ⟩ := im_rc (ns := ["a"]) (ds := [enc x.a_]) i1 rfl
    have fa := (g1.2 rfl).2 a (by rw [eφ]; exact List.mem_cons_self)
    refine ⟨a, kvs, rfl, o.at_, fun od => q _ n1 _ _ [] pa (fz_af st a1 fa o.at_ trivial) (ad_im ?_) Fp.nil⟩
    have hk := o.nm
    have hA := o.it
    have key : ∀ {kvs : List (L2.Key × V)}, kvs.map Prod.fst = (["a"] : List Str).map (fun x => (Sum.inr x : L2.Key)) → ImA K H1 (kvs.map Prod.snd) [enc x.a_] fq → ∃ w, kvs = [((Sum.inr ("a" : Str) : L2.Key), w)] ∧ Av H1 w x.a_.d := fun {kvs} e i => by
      cases kvs with
      | nil => cases e
      | cons y ys =>
        cases ys with
        | cons z zs => cases (List.cons.inj e).2
        | nil =>
          obtain ⟨w, ew, iw⟩ := ima1 i
          have e1 := (List.cons.inj e).1
          obtain ⟨y1, y2⟩ := y
          dsimp only at e1
          subst e1
          cases ew
          exact ⟨y2, rfl, (im_ad iw).2⟩
    obtain ⟨w, rfl, aw⟩ := key hk hA
    exact .dic (o := od) (p := od) (ds := [x.a_.d]) upd_same rfl rfl (.cons (av_upd o.at_ trivial aw) .nil)
end
end Bf
namespace Bf
open PySem PySem.Spec PyProof.Rows L2 LamX NdefX
section
variable {X : Cx} {x1 x2 n : Str} {c1 c2 : Value} {i : Nat} {body suite : List Stmt} {b₀ : Stmt} {kk : Nat} {np1 np2 tpos pos pos' : Pos} {tb : WX → TS} {ts : Addr → Value → Option Addr → TS}
end
/-! ## an error as a value -/
structure Er where
  cn : Str
  fl : Option (Str × Ad)
def Er.en (e : Er) : PyData := match e.fl with
  | none => .dict [(.str "err", .str e.cn)]
  | some x => .dict [(.str "err", .str e.cn), (.str x.1, enc x.2)]
instance : Enc Er := ⟨Er.en⟩
/-- at a stands that error -/
def ErAt (K : PySem.W.Frag) (H : Hp) (a : Addr) (e : Er) : Prop := match e.fl with
  | none => ∃ oe, TupX H a (.fe oe (erP (.ref (He.ga K e.cn)) none a))
  | some x => ∃ oe dx w, TupX H a (.fe oe (erP (.ref (He.ga K e.cn)) (some dx) a)) ∧ TupX H dx (.xd [(x.1, w)]) ∧ Im K H w (enc x.2) []
theorem im_er {K : PySem.W.Frag} {H : Hp} {v : V} {e : Er} {fp : List Addr} (h : Im K H v (enc e) fp) : fp = [] ∧ ∃ a, v = .ref a ∧ ErAt K H a e := by
  have h : Im K H v (Er.en e) fp := h
  obtain ⟨cn, fl⟩ := e
  unfold Er.en at h
  unfold ErAt
  cases fl with
  | none =>
    dsimp only at h ⊢
    generalize hp : [(PyData.str "err", PyData.str cn)] = ps at h
    cases h with
    | err0 z => obtain rfl := PyData.str.inj (congrArg Prod.snd (List.cons.inj hp).1); exact ⟨rfl, _, rfl, _, z⟩
    | any => exact absurd (PyData.str.inj (congrArg Prod.fst (List.cons.inj hp).1)) (by decide)
    | dicT e e1 e2 hA q =>
      subst hp
      rename_i kvs _ _
      cases kvs with
      | nil => cases e1
      | cons x xs => cases (List.cons.inj e1).1
    | dicK => cases congrArg Prod.fst (List.cons.inj hp).1
    | pin => cases congrArg Prod.fst (List.cons.inj hp).1
    | err => cases (List.cons.inj hp).2
    | ins em e e1 e2 hA q =>
      have e := congrArg Prod.fst (List.cons.inj hp).1
      rcases em with rfl | rfl <;> cases e
  | some x =>
    dsimp only at h ⊢
    generalize hp : [(PyData.str "err", PyData.str cn), (PyData.str x.1, enc x.2)] = ps at h
    cases h with
    | err z1 z2 z3 =>
      obtain rfl := PyData.str.inj (congrArg Prod.snd (List.cons.inj hp).1)
      have h2 := (List.cons.inj (List.cons.inj hp).2).1
      obtain rfl := PyData.str.inj (congrArg Prod.fst h2)
      obtain rfl := congrArg Prod.snd h2
      exact ⟨rfl, _, rfl, _, _, _, z1, z2, z3⟩
    | any => cases (List.cons.inj hp).2
    | dicT e e1 e2 hA q =>
      subst hp
      rename_i kvs _ _
      cases kvs with
      | nil => cases e1
      | cons x xs => cases (List.cons.inj e1).1
    | dicK => cases congrArg Prod.fst (List.cons.inj hp).1
    | pin => cases congrArg Prod.fst (List.cons.inj hp).1
    | err0 => cases (List.cons.inj hp).2
    | ins em e e1 e2 hA q =>
      have e := congrArg Prod.fst (List.cons.inj hp).1
      rcases em with rfl | rfl <;> cases e
instance : Pu Er := ⟨fun h => (im_er h).1⟩
theorem er_im {K : PySem.W.Frag} {H : Hp} {a : Addr} {e : Er} (h : ErAt K H a e) : Im K H (.ref a) (enc e) [] := by
  obtain ⟨cn, fl⟩ := e
  cases fl with
  | none => obtain ⟨oe, h⟩ := h; exact .err0 h
  | some x => obtain ⟨oe, dx, w, h1, h2, h3⟩ := h; exact .err h1 h2 h3
/-- its own dict stands -/
theorem erAt_at {K : PySem.W.Frag} {H : Hp} {a : Addr} {e : Er} (h : ErAt K H a e) : ∃ oe d, H a = some (.frz oe (.ext (erP (.ref (He.ga K e.cn)) d a))) ∧ DxOk H d := by
  obtain ⟨cn, fl⟩ := e
  cases fl with
  | none => obtain ⟨oe, h⟩ := h; exact ⟨oe, none, h, fun dd z => nomatch z⟩
  | some x => obtain ⟨oe, dx, w, h1, h2, h3⟩ := h; exact ⟨oe, some dx, h1, fun dd z => by cases z; exact ⟨_, h2⟩⟩
section
variable {X : Cx} {pins : List (Addr × Obj)} {σ : L2.St} {H : Hp} {s : Shared}
theorem inst_erF {a D : Addr} {d : Option Addr} {oe : Obj} (I : Inv X pins σ H s) (h : H a = some (.frz oe (.ext (erP (.ref D) d a)))) (hd : DxOk H d) : ∃ ox od, PySem.W.InstAt s.heap a ox D od := by
  obtain ⟨e0, ⟨⟨⟨oc, odx, oda, osl⟩, vs, e, ⟨z1, z2⟩, hv⟩, _⟩⟩ := I.hok a _ h
  dsimp only at z1 z2 hv
  subst z1 z2 hv
  cases odx with
  | none => exact ⟨_, none, e, rfl, rfl, trivial⟩
  | some dd =>
    obtain ⟨fs, ed⟩ := hd dd rfl
    have hx : ObjOk X.prog X.w H s.heap dd (.xd fs) := I.hok dd _ ed
    obtain ⟨mA, hns, hr⟩ := hx
    obtain ⟨o, ho, hl⟩ := lookIn_ns hns
    exact ⟨_, some o, e, rfl, rfl, ho⟩
def rIsF (K : PySem.W.Frag) : List V → Hp → VK → Prop := fun xs H Q => ∃ (a D : Addr) (d : Option Addr) (oe : Obj) (c : V) (cv : Value) (b : Bool), xs = [.ref a, c] ∧ H a = some (.frz oe (.ext (erP (.ref D) d a))) ∧ DxOk H d ∧ ExcC K D ∧ ClsV c cv ∧ PySem.W.kitOne K (.ref D) cv = some b ∧ Q (.bl b) H
theorem call_isF : CallR X (.builtin "isinstance") (rIsF X.K) := by
  intro pins s σ H xs us Q I r h
  obtain ⟨a, D, d, oe, c, cv, b, rfl, hT, hd, C, k, e, q⟩ := h
  obtain ⟨u1, u2, rfl, r1, r2⟩ := vals2 r
  have e2 := k.eq r2
  subst e2
  cases (show u1 = Value.ref a from r1)
  exact PySem.W.kia_one (PySem.W.kitx_excO C.hg C.hk C.hs C.hd C.ha C.hn C.ht C.hm) I.kIn (inst_erF I hT hd) e (fun z => nomatch z) fun tk => ⟨.bl b, H, I.tok tk, rfl, q⟩
/-- e.f, whichever of these classes it is of -/
def tEfF (cs : List Addr) (f : Str) (te : TE) : TE := fun σ H Q => te σ H fun x H1 => ∃ (a C dd : Addr) (oe : Obj) (fs : List (Str × V)) (v : V), C ∈ cs ∧ x = .ref a ∧ H1 a = some (.frz oe (.ext (erP (.ref C) (some dd) a))) ∧ H1 dd = some (.xd fs) ∧ fs.lookup f = some v ∧ Q v H1
theorem pe_efF {cs : List Addr} {e : Expr} {te : TE} {pos : Pos} {n : Str} (T : ∀ C ∈ cs, XfC X.K C ∧ PySem.W.findIn X.K (.ref C) n = some none) (he : PE X e te) (hb : attributeBase e n X.env (eval e X.env) = eval e X.env := by rfl) :
    PE X (.Attribute e n pos) (tEfF cs n te) := by
  refine ⟨fun pins s σ H Q I h => ?_⟩
  refine attr_of hb (thn (he.run pins s σ H _ I h) fun u s1 hh => ?_)
  obtain ⟨x, H1, I1, rx, a, C, dd, oe, fs, v, hC, ex, hA, ea, l, q⟩ := hh
  subst ex
  obtain ⟨TC, hno⟩ := T C hC
  obtain rfl : u = Value.ref a := rx
  obtain ⟨e0, ⟨⟨⟨oc, odx, oda, osl⟩, vs, e, ⟨z1, z2⟩, hv⟩, _⟩⟩ := I1.hok a _ hA
  dsimp only at z1 z2 hv
  subst z1 z2 hv
  have hx : ObjOk X.prog X.w H1 s1.heap dd (.xd fs) := I1.hok dd _ ea
  obtain ⟨mA, hns, hr⟩ := hx
  obtain ⟨od, ho, hl⟩ := lookIn_ns hns
  obtain ⟨u, hu, ru⟩ := RelO.some_of (v := v) (o := mA n) (by rw [← l]; exact hr n)
  exact HandSPX.exc_get I1.kIn (od := some od) ⟨e, rfl, rfl, ho⟩ TC.ga TC.gg TC.exC (PySem.W.findObj_own TC.hdC hno rfl (by rw [hl, hu])) (handed_of ru) ⟨v, H1, I1.tok _, ru, q⟩
end
section
variable {K : PySem.W.Frag} {T : List (Addr × Str)} {ρ : List Sl} {α : Type} [Enc α]
theorem re_isE {t : TE} {m : M Er} {f : Bool} {cs : List Str} {c : V} {cv : Value} {sup : Str → Bool} (hc : ClsV c cv) (tb : ∀ cn ∈ cs, ExcC K (He.ga K cn) ∧ PySem.W.kitOne K (.ref (He.ga K cn)) cv = some (sup cn)) (h : RE K T t ρ f m) :
    RE K T (tCB (rIsF K) (tCons t (tCons (tC c) tNil))) ρ true (bindW m fun e => reqW (e.cn ∈ cs) (retW (sup e.cn))) := fun Bs po φ σ H n st P p Q q =>
  h Bs po φ σ H n st _ p _ fun a n1 v H1 fp pa a1 i1 g1 => by
    obtain ⟨_, b, rfl, hE⟩ := im_er i1
    obtain ⟨oe, d, e1, e2⟩ := erAt_at hE
    obtain ⟨t1, t2⟩ := tb a.cn pa.1
    exact ⟨b, _, d, oe, c, cv, _, rfl, e1, e2, t1, hc, t2, q _ n1 _ H1 [] pa.2 a1 (.bl _) Fp.nil⟩
theorem re_ef {t : TE} {m : M Er} {f : Bool} {cs : List Str} {fn : Str} (h : RE K T t ρ f m) :
    RE K T (tEfF (cs.map (He.ga K)) fn t) ρ true (fun n P => m n fun e n1 => ∃ a, e.cn ∈ cs ∧ e.fl = some (fn, a) ∧ P a n1 : M Ad) := fun Bs po φ σ H n st P p Q q =>
  h Bs po φ σ H n st _ p _ fun e n1 v H1 fp pa a1 i1 g1 => by
    obtain ⟨_, b, rfl, hE⟩ := im_er i1
    obtain ⟨x, hc, hf, px⟩ := pa
    unfold ErAt at hE
    rw [hf] at hE
    obtain ⟨oe, dx, w, z1, z2, z3⟩ := hE
    exact ⟨b, _, dx, oe, _, w, List.mem_map.mpr ⟨_, hc, rfl⟩, rfl, z1, z2, by rw [List.lookup_cons, beq_self_eq_true], q x n1 w H1 [] px a1 z3 Fp.nil⟩
end
end Bf
namespace Bf
open PySem PySem.Spec PyProof.Rows L2 LamX NdefX
/-- an error's own __init__: self.f = y -/
def spIni (K : PySem.W.Frag) (C : Addr) (f : Str) : Sp := fun vs H Q _ => ∃ (a : Addr) (y : V), vs = [.ref a, y] ∧ H a = some (exo a C none) ∧ ∀ dx, H dx = none → dx ≠ a → Q .non (upd (upd H dx (exd dx [(f, y)])) a (exo a C (some dx)))
theorem spIni_len {K : PySem.W.Frag} {C : Addr} {f : Str} {vs : List V} {H : Hp} {Q : VK} {E : XK} (h : spIni K C f vs H Q E) : vs.length = 2 := by
  obtain ⟨a, y, rfl, _⟩ := h
  rfl
/-- what tMkO makes of it -/
theorem mk_ini {K : PySem.W.Frag} {C : Addr} {f : Str} {H : Hp} {y : V} {Q : XK} (q : ∀ d, H d = none → Q (.ref C) (some d) (upd H d (.xd [(f, y)]))) (a : Addr) (na : H a = none) :
    spIni K C f (.ref a :: ([y] ++ [])) (upd H a (exo a C none)) (fun v H2 => v = .non ∧ ∃ (d : Addr) (fs : List (Str × V)), H2 a = some (exo a C (some d)) ∧ H2 d = some (exd d fs) ∧ H d = none ∧ Q (.ref C) (some d) (upd (del H2 a) d (.xd fs))) (fun _ _ _ => False) := by
  refine ⟨a, y, rfl, upd_same, fun dx nd ne => ⟨rfl, dx, [(f, y)], upd_same, ?_, ?_, ?_⟩⟩
  · rw [upd_ne ne, upd_same]
  · rw [upd_ne ne] at nd
    exact nd
  · rw [upd_ne ne] at nd
    have e : upd (del (upd (upd (upd H a (exo a C none)) dx (exd dx [(f, y)])) a (exo a C (some dx))) a) dx (.xd [(f, y)]) = upd H dx (.xd [(f, y)]) := by
      funext b
      by_cases h1 : b = dx
      · rw [h1, upd_same, upd_same]
      · rw [upd_ne h1, upd_ne h1]
        by_cases h2 : b = a
        · rw [h2, del_same, na]
        · rw [del_ne h2, upd_ne h2, upd_ne h1, upd_ne h2]
    rw [e]
    exact q dx nd
end Bf
namespace Bf
open PySem PySem.Spec PyProof.Rows L2 LamX NdefX
/-! ## what raises -/
def ErIm (K : PySem.W.Frag) (H : Hp) (e : Er) (v : V) : Prop := ∀ x, e.fl = some x → Im K H v (enc x.2) []
/-- what the written part says of a class of errors with one field -/
def RzC (P : Program) (w : World) (K : PySem.W.Frag) (mg : Str → Option Value) (base : Heap) (cn f : Str) : Prop := ∃ fI fdI, ErK K (He.ga K cn) fI f ∧ FnOk P w K mg base CX0 1 fI fdI ["self", f] (spIni K (He.ga K cn) f) ∧ Binds K fdI ["self", f] [] ∧ mg cn = some (.ref (He.ga K cn))
section
variable {K : PySem.W.Frag} {T : List (Addr × Str)} {ρ : List Sl} {E : XK}
end
end Bf
namespace Bf
open PySem PySem.Spec PyProof.Rows L2 LamX NdefX
/-! ## f(lambda: what raises), f a def that catches it and looks at it -/
section
variable {K : PySem.W.Frag} {T : List (Addr × Str)} {ρ : List Sl} {β : Type} [Enc β]
theorem erAt_new {e : Er} {v : V} {H : Hp} {a : Addr} {oe : Obj} {d : Option Addr} (he : ErIm K H e v) (hd : match e.fl with | none => d = none | some x => ∃ dx, d = some dx ∧ H dx = some (.xd [(x.1, v)])) (na : H a = none) : ErAt K (upd H a (.frz oe (.ext (erP (.ref (He.ga K e.cn)) d a)))) a e := by
  obtain ⟨cn, fl⟩ := e
  cases fl with
  | none =>
    subst hd
    exact ⟨oe, upd_same⟩
  | some x =>
    obtain ⟨dx, rfl, hx⟩ := hd
    refine ⟨oe, dx, v, upd_same, ?_, ?_⟩
    · show upd H a _ dx = some _
      rw [upd_ne (fun z => by rw [z, na] at hx; cases hx)]
      exact hx
    · exact (he x rfl).same (same_new (Same.refl H) na)
end
end Bf
namespace Bf
open PySem PySem.Spec PyProof.Rows L2 LamX NdefX
/-- a def that is handed a lambda -/
structure LamF (P : Program) (w : World) (K : PySem.W.Frag) (mg : Str → Option Value) (base : Heap) (k : Nat) (x a : Str) (Ng : List Str) (sg : Scope) (f : Addr) (TT : (XK → Hp → VK → Prop) → Hp → VK → Prop) : Prop where
  ex : ∃ (pg : Arguments) (bg : List Stmt) (dV kV doc pm cdv ct oc : Value) (an od : Option Addr) (osl : Array (Option Value)), K.lookup f = some ⟨oc, od, .func (PySem.W.fnOf x x pg bg sg dV kV doc pm an cdv ct), osl⟩ ∧ PySem.W.codeIn K cdv x = true ∧ L2.Binds K (PySem.W.fnOf x x pg bg sg dV kV doc pm an cdv ct) [a] [] ∧
    ∀ X : Cx, X.prog = P → X.w = w → X.K = K → X.mg = mg → X.base = base → X.A.guards = some [] → Room k X.A → ∀ q, GivesTo X Ng x sg f cdv bg a q TT
  kp : PySem.W.keepIn K (.ref f) = true
  g : mg x = some (.ref f)
section
variable {K : PySem.W.Frag} {T : List (Addr × Str)} {ρ : List Sl} {E : XK}
end
end Bf
namespace Bf
open PySem PySem.Spec PyProof.Rows L2 LamX NdefX
/-! ## a number or a truth, and a number -/
section
variable {K : PySem.W.Frag} {T : List (Addr × Str)} {ρ : List Sl}
/-- repr of a list whose things nobody changes -/
def rReprLA : List V → Hp → VK → Prop := fun xs H Q => ∃ (a : Addr) (vs : List V) (ds : List PyData), xs = [.ref a] ∧ H a = some (.lst vs) ∧ AvA H vs ds ∧ ShOk (.list ds) ∧ Q (.str (PyData.list ds).shown) H
theorem avA_shw {X : Cx} {pins : List (Addr × Obj)} {σ : L2.St} {H : Hp} {s : Shared} (I : Inv X pins σ H s) : ∀ {vs : List V} {ds : List PyData} {us : List Value}, AvA H vs ds → Vals vs us → PyData.showableAll ds = true → (∀ d ∈ ds, d.shown.length ≤ sizeLine) → ShwA X.prog X.w s.heap ds us
  | _, _, _, .nil, .nil, _, _ => shw_nil
  | _, _, _, .cons (d := d) (ds := ds) a b, .cons r1 r2, hs, hz => by
    have q' : d.showable = true ∧ PyData.showableAll ds = true := by simpa [PyData.showableAll] using hs
    exact shw_cons (a.shw I _ r1 q'.1 (hz d List.mem_cons_self)) (avA_shw I b r2 q'.2 fun e he => hz e (List.mem_cons_of_mem _ he))
theorem call_reprLA {X : Cx} (gd : X.A.guards = some []) (hu : X.A.units + 64 < cLine) : CallR X (.builtin "repr") rReprLA := by
  intro pins s σ H xs us Q I r h
  obtain ⟨a, vs, ds, rfl, hv, ha, ⟨h1, h2, h3⟩, q⟩ := h
  obtain ⟨u, rfl, ru⟩ := vals1 r
  cases ru
  obtain ⟨z, its, n, rv, e2⟩ := I.hok _ _ hv
  have S := shw_list (P := X.prog) (w := X.w) e2 rfl rfl h3 (avA_shw I ha rv (by simpa [PyData.showable] using h1) fun d hd => Nat.le_trans (listText_mem_le (shown_mem hd)) (by rw [PyData.shown] at h3; exact h3))
  obtain ⟨T, idr, S1, S2, S3⟩ := S.top _ rfl
  refine call_repr_slot (by omega) (S2 s fun _ _ e => e) S1 (S3 X.A.in1 _ s _ gd ?_ (fun _ _ e => e) fun h' x tk hk => ⟨_, _, rfl, .str _, H, I.kept hk, ⟨x, rfl⟩, q⟩)
  show X.A.units + 1 + _ < cLine
  omega
theorem re_reprLA {α : Type} [Enc α] [Pu α] [ToA α] {t : TE} {m : M (Lst α)} {f : Bool} (h : RE K T t ρ f m) : RE K T (tCB rReprLA (tCons t tNil)) ρ true (bindW m fun xs => reqW (ShOk (.list (xs.l.map ToA.ad))) (retW ((PyData.list (xs.l.map ToA.ad)).shown : Str))) := fun Bs po φ σ H n st P p Q q =>
  h Bs po φ σ H n st _ p _ fun xs n1 v H1 fp pa a1 i1 g1 => by
    obtain ⟨a, vs, fq, rfl, hT, hA, eφ⟩ := im_lst i1
    have z := ima_pu hA
    subst z
    exact ⟨a, vs, _, rfl, hT, toA_all hA rfl, pa.1, q _ n1 _ H1 [] pa.2 a1 (.str _) Fp.nil⟩
end
end Bf
namespace Bf
open PySem PySem.Spec PyProof.Rows L2 LamX NdefX
section
variable {X : Cx} {x1 n : Str} {c1 : Value} {i : Nat} {body suite : List Stmt} {b₀ : Stmt} {np1 pos pos' : Pos} {tb : WX → TS} {ts : Addr → Value → Option Addr → TS}
end
/-! ## try: what raises / except A as e: x = e, nothing but x is known behind it -/
section
variable {K : PySem.W.Frag} {T : List (Addr × Str)} {ρ : List Sl} {R B S : Type} [Enc R] {C : Option Addr → Prop} {ρn : S → List Sl} {ρb : B → List Sl}
end
end Bf
namespace Bf
open PySem PySem.Spec PyProof.Rows L2 LamX NdefX
section
variable {K : PySem.W.Frag} {T : List (Addr × Str)} {ρ : List Sl}
end
/-! ## what the written part says of the classes of errors -/
def excB (K : PySem.W.Frag) (C : Addr) : Bool :=
  xfB K C && (exqF (PySem.W.findIn K (.ref C) "__class__") (some (some (.builtin "object.__class__"))) && (exqF (PySem.W.specialIn K (.builtin "object.__class__") "__get__") (some (some (.builtin "getset_descriptor.__get__"))) &&
  (decide (PySem.W.takesIn K (.builtin "object.__class__") = some true) && decide (PySem.W.mroIn K C (.type "object") = some true))))
theorem excB_ok {K : PySem.W.Frag} {C : Addr} (h : excB K C = true) : ExcC K C := by
  unfold excB at h
  obtain ⟨h5, h⟩ := Bool.and_eq_true_iff.mp h
  obtain ⟨h9, h⟩ := Bool.and_eq_true_iff.mp h
  obtain ⟨h10, h⟩ := Bool.and_eq_true_iff.mp h
  obtain ⟨h11, h12⟩ := Bool.and_eq_true_iff.mp h
  have xf := xfB_ok h5
  exact ⟨xf.ga, xf.gg, xf.exC, xf.hdC, exqF_ok h9, exqF_ok h10, of_decide_eq_true h11, of_decide_eq_true h12⟩
def errTB (K : PySem.W.Frag) (cs own : List Str) (blt : List String) (flds : List (Str × Str)) (sup : Str → Str → Bool) : Bool :=
  cs.all (fun cn => excB K (He.ga K cn) && (own.all (fun C => decide (PySem.W.kitOne K (.ref (He.ga K cn)) (.ref (He.ga K C)) = some (sup cn C))) && (blt.all (fun C => decide (PySem.W.kitOne K (.ref (He.ga K cn)) (.type C) = some (sup cn (Str.ofString C)))) &&
    decide (PySem.W.exmAny K (.ref (He.ga K cn)) [.ref (He.ga K "NotSo"), .ref (He.ga K "Gone")] = some true) && decide (PySem.W.exmOne K (.ref (He.ga K cn)) (.ref (He.ga K "NotSo")) = some (sup cn "NotSo"))))) && flds.all fun x => xfB K (He.ga K x.1) && exqF (PySem.W.findIn K (.ref (He.ga K x.1)) x.2) (some none)
structure ErrT (K : PySem.W.Frag) (mg : Str → Option Value) (cs own : List Str) (blt : List String) (flds : List (Str × Str)) (sup : Str → Str → Bool) : Prop where
  tab : errTB K cs own blt flds sup = true
  gl : ∀ C ∈ own, mg C = some (.ref (He.ga K C))
  nb : ∀ C ∈ blt, mg (Str.ofString C) = none
section
variable {K : PySem.W.Frag} {mg : Str → Option Value} {cs own : List Str} {blt : List String} {flds : List (Str × Str)} {sup : Str → Str → Bool} (k : ErrT K mg cs own blt flds sup)
include k
theorem ErrT.at_ {cn : Str} (h : cn ∈ cs) : ExcC K (He.ga K cn) ∧ (∀ C ∈ own, PySem.W.kitOne K (.ref (He.ga K cn)) (.ref (He.ga K C)) = some (sup cn C)) ∧ (∀ C ∈ blt, PySem.W.kitOne K (.ref (He.ga K cn)) (.type C) = some (sup cn (Str.ofString C))) ∧ PySem.W.exmAny K (.ref (He.ga K cn)) [.ref (He.ga K "NotSo"), .ref (He.ga K "Gone")] = some true ∧ PySem.W.exmOne K (.ref (He.ga K cn)) (.ref (He.ga K "NotSo")) = some (sup cn "NotSo") := by
  have t := k.tab
  unfold errTB at t
  obtain ⟨t, _⟩ := Bool.and_eq_true_iff.mp t
  have t := List.all_eq_true.mp t cn h
  obtain ⟨h1, t⟩ := Bool.and_eq_true_iff.mp t
  obtain ⟨h2, t⟩ := Bool.and_eq_true_iff.mp t
  obtain ⟨t, h5⟩ := Bool.and_eq_true_iff.mp t
  obtain ⟨h3, h4⟩ := Bool.and_eq_true_iff.mp t
  exact ⟨excB_ok h1, fun C hC => of_decide_eq_true (List.all_eq_true.mp h2 C hC), fun C hC => of_decide_eq_true (List.all_eq_true.mp h3 C hC), of_decide_eq_true h4, of_decide_eq_true h5⟩
theorem ErrT.kOwn {C : Str} (h : C ∈ own) : ∀ cn ∈ cs, ExcC K (He.ga K cn) ∧ PySem.W.kitOne K (.ref (He.ga K cn)) (.ref (He.ga K C)) = some (sup cn C) := fun cn hc => ⟨(k.at_ hc).1, (k.at_ hc).2.1 C h⟩
theorem ErrT.kBlt {C : String} (h : C ∈ blt) : ∀ cn ∈ cs, ExcC K (He.ga K cn) ∧ PySem.W.kitOne K (.ref (He.ga K cn)) (.type C) = some (sup cn (Str.ofString C)) := fun cn hc => ⟨(k.at_ hc).1, (k.at_ hc).2.2.1 C h⟩
theorem ErrT.m2 : ∀ cn ∈ cs, PySem.W.exmAny K (.ref (He.ga K cn)) [.ref (He.ga K "NotSo"), .ref (He.ga K "Gone")] = some true := fun cn hc => (k.at_ hc).2.2.2.1
theorem ErrT.m1 : ∀ cn ∈ cs, PySem.W.exmOne K (.ref (He.ga K cn)) (.ref (He.ga K "NotSo")) = some (sup cn "NotSo") := fun cn hc => (k.at_ hc).2.2.2.2
theorem ErrT.fld {f : Str} {L : List Str} (h : ∀ cn ∈ L, (cn, f) ∈ flds) : ∀ C ∈ L.map (He.ga K), XfC K C ∧ PySem.W.findIn K (.ref C) f = some none := fun C hC => by
  obtain ⟨cn, hc, rfl⟩ := List.mem_map.mp hC
  have t := k.tab
  unfold errTB at t
  obtain ⟨_, t⟩ := Bool.and_eq_true_iff.mp t
  have t := List.all_eq_true.mp t _ (h cn hc)
  obtain ⟨h1, h2⟩ := Bool.and_eq_true_iff.mp t
  exact ⟨xfB_ok h1, exqF_ok h2⟩
end
/-! ## defs that raise, as they are called -/
structure CalIX (P : Program) (w : World) (K : PySem.W.Frag) (mg : Str → Option Value) (base : Heap) (k : Nat) (cn : Str) (f : Addr) (fd : FuncData) (ps : List Str) (sp : Sp) : Prop where
  G : FnOk P w K mg base (L2.CX P w) k f fd ps sp
  m : Mk K (He.ga K cn) f
  g : mg cn = some (.ref (He.ga K cn))
  b : L2.Binds K fd ps []
structure CalMX (P : Program) (w : World) (K : PySem.W.Frag) (mg : Str → Option Value) (base : Heap) (k : Nat) (cn m : Str) (f : Addr) (fd : FuncData) (ps : List Str) (sp : Sp) : Prop where
  G : FnOk P w K mg base (L2.CX P w) k f fd ps sp
  c : Cls K (He.ga K cn)
  m : Meth K (He.ga K cn) m f
  b : L2.Binds K fd ps []
end Bf
namespace Bf
open PySem PySem.Spec PyProof.Rows L2 LamX NdefX
/-! ## errors rooted in LookupError with an own __init__; errors made and kept as values -/
abbrev leT : List Value := [.type "LookupError", .type "Exception", .type "BaseException", .type "object"]
/-- what the written part says of such a class -/
structure OexL (K : PySem.W.Frag) (C : Addr) : Prop where
  cls : ∃ nm q N bs bm sn sub ab col dd k0 k1 k2 k3 k5, K.lookup C = some (excClassObj nm q C N bs bm true sn sub ab col dd k0 k1 k2 k3 k5 "LookupError.__new__") ∧ PySem.W.excTail leT bm = true
  sa : PySem.W.findIn K (.ref C) "__setattr__" = some (some (.builtin "object.__setattr__"))
  exC : PySem.W.subIn K (.ref C) (.type "BaseException") = some true
  tyC : PySem.W.typeIn K (.ref C) = some (.type "type")
  kC : PySem.W.keepIn K (.ref C) = true
section
variable {prog : Program} {w : World} {A : Around} {R : Result → Shared → Prop} {hp : Heap} {g : Array GenState} {d : Drawn} {t : Nat} {os : OsState}
/-- the first field of such an error -/
theorem osa_L {K : PySem.W.Frag} {name : Str} {tk : Tok} {v : Value} {x C t1 : Addr} {cd : ClassData} {bm : List Value} (X : K.In hp) (hx : hp.get? x = some (PySem.W.excObj C t1 none .none)) (hcd : PySem.W.clsIn K C = some cd)
    (hm : cd.mro = .ref C :: bm) (ht : PySem.W.excTail leT bm = true) (hh : cd.hasDict = true) (ha : PySem.W.findIn K (.ref C) name = some none)
    (hq : ∀ h' tk' dx, (∀ b o, b ≠ x → hp.get? b = some o → h'.get? b = some o) → hp.objs.size ≤ dx → dx ≠ x → h'.get? x = some (PySem.W.excObj C t1 (some dx) .none) → h'.Ns1 dx (fun y => if y = name then some v else none) → R (.ok (.ret .none)) ⟨h', g, d, tk', os⟩) :
    codeAny (model prog w) A (.call (.builtin "object.__setattr__") ⟨[.ref x, .str name tk, v], []⟩) R ⟨hp, g, d, t, os⟩ := by
  have ne : x ≠ hp.objs.size := Nat.ne_of_lt (Heap.lt_size hx)
  refine PySem.W.osa_openX (od := none) (r := none) PySem.F.store_LookupError X ⟨hx, rfl, rfl, trivial⟩ (by
    unfold PySem.W.excOver
    rw [hcd]
    show (match cd.mro with | .ref C' :: bm => C' == C && PySem.W.excTail leT bm | _ => false) = true
    rw [hm]
    show (C == C && PySem.W.excTail leT bm) = true
    rw [ht]
    simp) (by unfold PySem.W.takerIn; rw [ha]; rfl) fun b => ?_
  refine wpAny_bind (wpAny_pure (wpAny_bind (PySem.W.instanceDict_exc hx (PySem.W.looks_clsIn X hcd) hh ?_)))
  show wpAny _ _ (PySem.Builtin.ObjectAttr.storeInDict hp.objs.size (.str name tk) name v) _ _ _
  have e0 : (hp.push (PySem.W.dictOf [] 0)).get? x = some (PySem.W.excObj C t1 none .none) := Heap.get?_push_of_some _ hx
  refine PySem.HandSPX.store_in_new ?_ fun h' tk' hn' hs => ?_
  · exact ⟨_, #[], _, (Heap.get?_update_ne _ _ _ _ ne.symm).trans (Heap.get?_push_at rfl rfl), rfl, fun e he => absurd he (by simp), fun _ => rfl⟩
  · refine hq h' tk' hp.objs.size (fun b o hb ho => ?_) (Nat.le_refl _) ne.symm ?_ hn'
    · exact (hs.2 b (Nat.ne_of_lt (Heap.lt_size ho))).trans ((Heap.get?_update_ne _ _ _ _ hb).trans (Heap.get?_push_of_some _ ho))
    · exact (hs.2 x ne).trans (Heap.get?_update_self _ e0 rfl)
end
section
variable {X : Cx} {pins : List (Addr × Obj)} {σ : L2.St} {H : Hp} {s : Shared} {a C dx : Addr} {f : Str} {y : V} {u : Value}
/-- what such a store leaves of the heap's own reading -/
theorem un_exd {hp h' : Heap} {fs : List Addr} (e : H a = some (exo a C none)) (hnd : H dx = none) (dn : hp.objs.size ≤ dx) (k : ∀ b o, b ≠ a → hp.get? b = some o → h'.get? b = some o) (hx : ∃ o, h'.get? a = some o) :
    Un fs [] H (upd (upd H dx (exd dx [(f, y)])) a (exo a C (some dx))) hp h' := by
  have nd : ∀ {b : Addr} {o : Obj}, hp.get? b = some o → b ≠ dx := fun q => Nat.ne_of_lt (Nat.lt_of_lt_of_le (Heap.lt_size q) dn)
  have na : ∀ {b : Addr}, H b = none → b ≠ a := fun n z => by
    rw [z, e] at n
    cases n
  refine ⟨fun b o q n _ _ => k b o (na n) q, fun b o q n _ _ => ⟨o.slots, k b o (na n) q⟩, fun b o q n _ => ?_, fun b o q _ => ?_, fun b xs q => ?_, fun b o v q => ?_, fun b ps q => ⟨#[], ?_⟩⟩
  · rw [upd_ne (na n), upd_ne (nd q)]
    exact n
  · by_cases hb : b = a
    · rw [hb]
      exact hx
    · exact ⟨o, k b o hb q⟩
  · rw [upd_ne (at_ne e q exo_tup), upd_ne (ne_of_none q hnd)]
    exact q
  · rw [upd_ne (at_ne e q exo_frz), upd_ne (ne_of_none q hnd)]
    exact q
  · rw [upd_ne (at_ne e q exo_tbl), upd_ne (ne_of_none q hnd), q]
    simp
theorem ost_newL {Q : Unit → Shared → Prop} {E : Value → Shared → Prop} {A : Around} (T : OexL X.K C) (I : Inv X pins σ H s) (e : H a = some (exo a C none)) (hno : PySem.W.findIn X.K (.ref C) f = some none) (ry : RelV y u)
    (h : ∀ dx s', H dx = none → dx ≠ a → Inv X pins σ (upd (upd H dx (exd dx [(f, y)])) a (exo a C (some dx))) s' → Q () s') : wpAny (model X.prog X.w) A (setAttr (.ref a) f u) Q E s := by
  obtain ⟨nm, q, N, bs, bm, sn, sub, ab, col, dd, k0, k1, k2, k3, k5, hC, hbm⟩ := T.cls
  have hcl : PySem.W.clsIn X.K C = some { name := nm, bases := bs, mro := .ref C :: bm, ns := N, qualname := q, hasDict := true, slotNames := sn, subclasses := sub, abstract := ab, collection := col, hasDel := false } := by unfold PySem.W.clsIn; rw [hC] <;> rfl
  obtain ⟨t1, ho⟩ := exo_at I.hok e
  obtain ⟨hp, g, d, t, os⟩ := s
  refine PySem.W.set_plain I.kIn (ox := PySem.W.excObj C t1 none .none) (od := none) ⟨ho, rfl, rfl, trivial⟩ T.sa ?_
  refine osa_L I.kIn ho hcl rfl hbm rfl hno fun h' tk' dx k dn dne hx hn => ?_
  have hnd : H dx = none := I.hok.fresh dn
  refine h dx _ hnd dne (I.un (t' := tk') (un_exd e hnd dn k ⟨_, hx⟩) fun b o q => ?_)
  by_cases hb : b = a
  · subst hb
    rw [upd_same] at q
    cases q
    exact exo_ok hx
  · rw [upd_ne hb] at q
    by_cases hd : b = dx
    · subst hd
      rw [upd_same] at q
      cases q
      exact exd_ok hn (relO_put (fs := []) ry fun g => True.intro)
    · rw [upd_ne hd] at q
      refine (I.hok b o q).stay (fun c v hc z => k c v ?_ z) (fun c hc => ?_) fun c xs hc => ?_
      · rcases hc with hc | hc
        · rw [hc]
          exact hb
        · exact at_ne e hc exo_own
      · rw [upd_ne (at_ne e hc exo_own), upd_ne (ne_of_none hc hnd)]
        exact hc
      · rw [upd_ne (at_ne e hc exo_tup), upd_ne (ne_of_none hc hnd)]
        exact hc
end
/-- self.f = y in the __init__ of such an error -/
def tOstL (K : PySem.W.Frag) (f : Str) (to te : TE) : TS := fun D σ H => te σ H fun y H1 => to σ H1 fun x H2 => ∃ a C : Addr, x = .ref a ∧ OexL K C ∧ PySem.W.findIn K (.ref C) f = some none ∧
  H2 a = some (exo a C none) ∧ ∀ dx, H2 dx = none → dx ≠ a → D.nx σ (upd (upd H2 dx (exd dx [(f, y)])) a (exo a C (some dx)))
theorem ps_ostL {X : Cx} {o e : Expr} {to te : TE} {f : Str} {p' pos : Pos} (ho : PE X o to) (he : PE X e te) (hs : swapsWith e (some (.Attribute o f p')) pos.line X.env = pure false := by rfl) : PS X (.Assign [.Attribute o f p'] e pos) (tOstL X.K f to te) := by
  refine ⟨fun pins s σ H D I h => plainObj_wpAny_Assign_Attribute (thn (he.run pins s σ H _ I h) fun v s1 ⟨y, H1, I1, r1, q1⟩ => thn (ho.run pins s1 σ H1 _ I1 q1) fun u s2 ⟨x, H2, I2, r2, a, C, ex, T, hno, ea, q⟩ => ?_) hs⟩
  subst ex
  obtain rfl : u = Value.ref a := r2
  exact ost_newL T I2 ea hno r1 fun dx s' n ne J => ⟨σ, _, J, q dx n ne⟩
/-- such an error, made -/
theorem pmk_oexL {X : Cx} {e : Expr} {es : List Expr} {ta : TA} {p pos : Pos} {CX : CXT} {x : Str} {C fI : Addr} {k : Nat} {fd : FuncData} {ps : List Str} {sp : Sp} {ds : List Value} {dvs : List V} (T : OexL X.K C)
    (iC : PySem.W.findIn X.K (.ref C) "__init__" = some (some (.ref fI))) (tI : PySem.W.typeIn X.K (.ref fI) = some (.type "function")) (F1 : FnOk X.prog X.w X.K X.mg X.base CX k fI fd ps sp) (hr : Room (k + 1) X.A) (hb : Binds X.K fd ps ds) (hd : Vals dvs ds)
    (hx : Passes CX X (fun _ _ _ => False)) (hg : Gl X x) (hm : X.mg x = some (.ref C)) (ha : PA X (e :: es) ta)
    (hdb : (x == ("__debug__" : Str)) = false := by decide) (he : starEach (e :: es) X.env = (false, eval e X.env) :: starEach es X.env := by rfl) (hpl : (backTo pos (starEach es X.env)).any (·.1) = false := by rfl) :
    PMk X (.Call (.Name x p) (e :: es) [] pos) (tMkO C sp dvs ta) := by
  intro pins s σ H Q I h
  obtain ⟨nm, q, N, bs, bm, sn, sub, ab, col, dd, k0, k1, k2, k3, k5, hC, hbm⟩ := T.cls
  refine wpAny_Call_Name_kw (ld_glob I hg hm (PySem.W.callWith_K (h₀ := X.base) I.ok.mod.kin T.kC (thn (ha.run pos pins s σ H _ I h) fun us s1 ⟨vs, H1, I1, r1, hz, q1⟩ => ⟨I1.kIn, ?_⟩) he hpl) hdb)
  show wpAny _ _ (call (.ref C) us) _ _ _
  obtain ⟨hp, g, dr, tk, os⟩ := s1
  -- the tuple of its args, then the error
  generalize ea : hp.objs.size + 1 = a
  have hsz : hp.objs.size ≤ a := by omega
  have hq := q1 a (I1.hok.fresh hsz)
  have keeps : ∀ b o, hp.get? b = some o → ((hp.push (PySem.W.kdv_tup us)).push (PySem.HandSPX.excO C hp.objs.size)).get? b = some o := fun b o z => Heap.get?_push_of_some _ (Heap.get?_push_of_some _ z)
  have there : ((hp.push (PySem.W.kdv_tup us)).push (PySem.HandSPX.excO C hp.objs.size)).get? a = some (PySem.HandSPX.excO C hp.objs.size) := by
    subst ea
    heap_get
  have I2 : Inv X pins σ (upd H1 a (exo a C none)) ⟨(hp.push (PySem.W.kdv_tup us)).push (PySem.HandSPX.excO C hp.objs.size), g, dr, tk, os⟩ := I1.laid (t' := tk) keeps hsz (exo_ok there)
  have r2 : Vals (V.ref a :: (vs ++ dvs)) (Value.ref a :: (us ++ ds)) := .cons rfl (r1.append hd)
  have hl : (Value.ref a :: us ++ ds).length = ps.length := r2.length.symm.trans (F1.len _ _ _ _ hq)
  have hus : us.length ≤ sizeLine := by
    rw [← Paired.length r1, sizeLine_eq]
    omega
  have run := F1.run _ X.stack _ _ ⟨Value.ref a :: us, []⟩ (Value.ref a :: (us ++ ds)) _ _ (fun _ _ _ => False) (hr.make C us []) (I2.env0.make C us []) (hb _ (Value.ref a :: us) I2.kIn hl) r2 hq
  subst ea
  refine wpAny_call (PySem.HandSPX.call_own PySem.F.excBase_LookupError (fun Y => PySem.W.excTail_contains Y bm hbm) (I1.kIn _ _ hC) (PySem.W.looks_findIn I1.kIn iC) (fun self => PySem.W.bind_fn I1.kIn self tI) hus (codeAny_mono run fun r s' hq' => ?_))
  match r, hq' with
  | .error er, hq' => exact hx pins σ _ _ er s' I2 hq'
  | .ok (.ret u), ⟨v, H2, os2, bare2, un2, hok2, rv, ev, d, fs, ea, ed, hd1, q2⟩ =>
    subst ev
    exact ⟨rv, mk_end (raises_own T.exC T.tyC) I1 hsz keeps un2 hok2 os2 bare2 ea ed hd1 q2⟩
  | .ok .next, hq' => exact hq'.elim
  | .ok .brk, hq' => exact hq'.elim
  | .ok .cont, hq' => exact hq'.elim
/-! ### an error kept as a value -/
/-- what makes an error gives it -/
theorem pe_mk {X : Cx} {e : Expr} {t : L2.St → Hp → XK → Prop} (he : PMk X e t) : PE X e (fun σ H Q => t σ H fun cls d H1 => ∀ a oe, H1 a = none → Q (.ref a) (upd H1 a (.frz oe (.ext (erP cls d a))))) := by
  refine ⟨fun pins s σ H Q I h => wpAny_mono (he pins s σ H _ I h) (fun u s1 z => ?_) fun _ _ z => z⟩
  obtain ⟨a, oe, vs, sI, H1, cls, d, rfl, J, k, hne, ha, hz, hd, _, na, os, ag, _, q⟩ := z
  have J2 : Inv X pins σ (upd H1 a (.ext (erP cls d a))) s1 := J.call' os (ch := []) (Un.laidN k hne na) (J.hok.laidN k na (erO_ok ha hz hd)) ag (fun _ z => nomatch z)
  obtain ⟨oe8, J9⟩ := J2.lock upd_same trivial
  rw [upd_upd] at J9
  exact ⟨.ref a, _, J9, rfl, q a oe8 na⟩
/-- a class of errors with one field, rooted in LookupError -/
structure ErL (K : PySem.W.Frag) (C fI : Addr) (f : Str) : Prop where
  oe : OexL K C
  no : PySem.W.findIn K (.ref C) f = some none
  iC : PySem.W.findIn K (.ref C) "__init__" = some (some (.ref fI))
  tI : PySem.W.typeIn K (.ref fI) = some (.type "function")
def RzL (P : Program) (w : World) (K : PySem.W.Frag) (mg : Str → Option Value) (base : Heap) (cn f : Str) : Prop := ∃ fI fdI, ErL K (He.ga K cn) fI f ∧ FnOk P w K mg base CX0 1 fI fdI ["self", f] (spIni K (He.ga K cn) f) ∧ Binds K fdI ["self", f] [] ∧ mg cn = some (.ref (He.ga K cn))
section
variable {X : Cx} {e : Expr} {te : TE} {cn f : Str} {p pos : Pos}
def tMk1 (K : PySem.W.Frag) (cn f : Str) (te : TE) : L2.St → Hp → XK → Prop := tMkO (He.ga K cn) (spIni K (He.ga K cn) f) [] (tCons te tNil)
theorem pmk_rz (R : RzC X.prog X.w X.K X.mg X.base cn f) (hr : Room 2 X.A) (hg : Gl X cn) (he : PE X e te) (hdb : (cn == ("__debug__" : Str)) = false := by decide) (h1 : starEach [e] X.env = (false, eval e X.env) :: starEach [] X.env := by rfl)
    (h2 : (backTo pos (starEach [] X.env)).any (·.1) = false := by rfl) : PMk X (.Call (.Name cn p) [e] [] pos) (tMk1 X.K cn f te) := by
  obtain ⟨fI, fdI, G, GI, b, g⟩ := R
  exact pmk_oex G.oe G.iC G.tI GI hr b .nil (fun _ _ _ _ _ _ _ h => h.elim) hg g (pa_cons he pa_nil (hs := h1)) (hdb := hdb) (he := h1) (hpl := h2)
theorem pmk_rl (R : RzL X.prog X.w X.K X.mg X.base cn f) (hr : Room 2 X.A) (hg : Gl X cn) (he : PE X e te) (hdb : (cn == ("__debug__" : Str)) = false := by decide) (h1 : starEach [e] X.env = (false, eval e X.env) :: starEach [] X.env := by rfl)
    (h2 : (backTo pos (starEach [] X.env)).any (·.1) = false := by rfl) : PMk X (.Call (.Name cn p) [e] [] pos) (tMk1 X.K cn f te) := by
  obtain ⟨fI, fdI, G, GI, b, g⟩ := R
  exact pmk_oexL G.oe G.iC G.tI GI hr b .nil (fun _ _ _ _ _ _ _ h => h.elim) hg g (pa_cons he pa_nil (hs := h1)) (hdb := hdb) (he := h1) (hpl := h2)
/-- an error without fields -/
structure Mk0 (K : PySem.W.Frag) (mg : Str → Option Value) (cn : Str) : Prop where
  q : (PySem.W.excIn K (He.ga K cn) [.type "ValueError", .type "Exception", .type "BaseException", .type "object"] "ValueError.__new__" || PySem.W.excIn K (He.ga K cn) leT "LookupError.__new__") = true
  kp : PySem.W.keepIn K (.ref (He.ga K cn)) = true
  s1 : PySem.W.subIn K (.ref (He.ga K cn)) (.type "BaseException") = some true
  t1 : PySem.W.typeIn K (.ref (He.ga K cn)) = some (.type "type")
  g : mg cn = some (.ref (He.ga K cn))
theorem pmk_r0 (R : Mk0 X.K X.mg cn) (hg : Gl X cn) (hdb : (cn == ("__debug__" : Str)) = false := by decide) : PMk X (.Call (.Name cn p) [] [] pos) (fun _ H Q => Q (.ref (He.ga X.K cn)) none H) := by
  rcases Bool.or_eq_true_iff.mp R.q with h | h
  · exact pmk_own0 PySem.F.excBase_ValueError h R.g R.kp (raises_own R.s1 R.t1) hg hdb
  · exact pmk_own0 PySem.F.excBase_LookupError h R.g R.kp (raises_own R.s1 R.t1) hg hdb
end
def tMkE (K : PySem.W.Frag) (cn f : Str) (te : TE) : TE := fun σ H Q => tMk1 K cn f te σ H fun cls d H1 => ∀ a oe, H1 a = none → Q (.ref a) (upd H1 a (.frz oe (.ext (erP cls d a))))
theorem pe_mkV {X : Cx} {e : Expr} {te : TE} {cn f : Str} {p pos : Pos} (R : RzC X.prog X.w X.K X.mg X.base cn f) (hr : Room 2 X.A) (hg : Gl X cn) (he : PE X e te) (hdb : (cn == ("__debug__" : Str)) = false := by decide) (h1 : starEach [e] X.env = (false, eval e X.env) :: starEach [] X.env := by rfl)
    (h2 : (backTo pos (starEach [] X.env)).any (·.1) = false := by rfl) : PE X (.Call (.Name cn p) [e] [] pos) (tMkE X.K cn f te) := pe_mk (pmk_rz R hr hg he hdb h1 h2)
theorem pe_mkL {X : Cx} {e : Expr} {te : TE} {cn f : Str} {p pos : Pos} (R : RzL X.prog X.w X.K X.mg X.base cn f) (hr : Room 2 X.A) (hg : Gl X cn) (he : PE X e te) (hdb : (cn == ("__debug__" : Str)) = false := by decide) (h1 : starEach [e] X.env = (false, eval e X.env) :: starEach [] X.env := by rfl)
    (h2 : (backTo pos (starEach [] X.env)).any (·.1) = false := by rfl) : PE X (.Call (.Name cn p) [e] [] pos) (tMkE X.K cn f te) := pe_mk (pmk_rl R hr hg he hdb h1 h2)
def tMkE0 (K : PySem.W.Frag) (cn : Str) : TE := fun _ H Q => ∀ a oe, H a = none → Q (.ref a) (upd H a (.frz oe (.ext (erP (.ref (He.ga K cn)) none a))))
theorem pe_mk0 {X : Cx} {cn : Str} {p pos : Pos} (R : Mk0 X.K X.mg cn) (hg : Gl X cn) (hdb : (cn == ("__debug__" : Str)) = false := by decide) : PE X (.Call (.Name cn p) [] [] pos) (tMkE0 X.K cn) := pe_mk (pmk_r0 R hg hdb)
section
variable {K : PySem.W.Frag} {T : List (Addr × Str)} {ρ : List Sl}
theorem re_mkE {t : TE} {m : M Ad} {b : Bool} {cn f : Str} (h : RE K T t ρ b m) : RE K T (tMkE K cn f t) ρ true (mapW (fun a : Ad => (⟨cn, some (f, a)⟩ : Er)) m) := fun Bs po φ σ H n st P p Q q =>
  h Bs po φ σ H n st _ p _ fun a n1 v H1 fp pa a1 i1 g1 => by
    have z := Pu.pu i1
    subst z
    refine ⟨by show 1 ≤ 1000; decide, fun x nx => mk_ini (Q := fun cls d H1 => ∀ (a : Addr) (oe : Obj), H1 a = none → Q (.ref a) (upd H1 a (.frz oe (.ext (erP cls d a))))) (fun d nd b oe nb => ?_) x nx⟩
    have s1 : Same H1 (upd H1 d (.xd [(f, v)])) := same_new (Same.refl H1) nd
    have s2 : Same H1 (upd (upd H1 d (.xd [(f, v)])) b (.frz oe (.ext (erP (.ref (He.ga K cn)) (some d) b)))) := same_new s1 nb
    have hE := erAt_new (K := K) (e := ⟨cn, some (f, a)⟩) (v := v) (oe := oe) (d := some d) (fun y e => by cases e; exact i1.same s1) ⟨d, rfl, upd_same⟩ nb
    exact q ⟨cn, some (f, a)⟩ n1 (.ref b) _ [] pa (a1.trans (Af.same s2)) (er_im hE) Fp.nil
theorem re_mkE0 {cn : Str} : RE K T (tMkE0 K cn) ρ true (retW (⟨cn, none⟩ : Er)) := fun Bs po φ σ H n st P p Q q a oe na => by
  have hE := erAt_new (K := K) (e := ⟨cn, none⟩) (v := .non) (oe := oe) (d := none) (fun y e => nomatch e) rfl na
  exact q ⟨cn, none⟩ n (.ref a) _ [] p (Af.same (same_new (Same.refl H) na)) (er_im hE) Fp.nil
end
/-! ### what the run tells -/
def oexLB (K : PySem.W.Frag) (C : Addr) : Bool := match K.lookup C with
  | some ⟨.type "type", _, .cls cd, sl⟩ => (match cd.mro, sl.toList with
    | .ref C' :: bm, [_, _, _, _, some (.builtin n), _] => C' == C && (n == "LookupError.__new__" && (!cd.hasDel && (cd.hasDict && PySem.W.excTail leT bm)))
    | _, _ => false)
  | _ => false
theorem oexLB_ok {K : PySem.W.Frag} {C : Addr} (q : oexLB K C = true) : ∃ nm qn N bs bm sn sub ab col dd k0 k1 k2 k3 k5, K.lookup C = some (excClassObj nm qn C N bs bm true sn sub ab col dd k0 k1 k2 k3 k5 "LookupError.__new__") ∧ PySem.W.excTail leT bm = true := by
  unfold oexLB at q
  split at q
  · rename_i dd cd sl ho
    split at q
    · rename_i C' bm k0 k1 k2 k3 n k5 hm hs
      simp only [Bool.and_eq_true, beq_iff_eq, Bool.not_eq_true'] at q
      obtain ⟨rfl, rfl, hdel, hdd, hr⟩ := q
      obtain ⟨nm, bs, mro, ns, qn, hd, sn, sub, ab, col, del⟩ := cd
      dsimp only at hm hdel hdd
      subst hm hdel hdd
      have hsl : sl = #[k0, k1, k2, k3, some (.builtin "LookupError.__new__"), k5] := by
        obtain ⟨l⟩ := sl
        simp only at hs
        rw [hs]
      subst hsl
      exact ⟨nm, qn, ns, bs, bm, sn, sub, ab, col, dd, k0, k1, k2, k3, k5, ho, hr⟩
    · cases q
  · cases q
def errLB (K : PySem.W.Frag) (C fI : Addr) (f : Str) : Bool :=
  oexLB K C && (exqF (PySem.W.findIn K (.ref C) "__setattr__") (some (some (.builtin "object.__setattr__"))) && (decide (PySem.W.subIn K (.ref C) (.type "BaseException") = some true) && (decide (PySem.W.typeIn K (.ref C) = some (.type "type")) && (PySem.W.keepIn K (.ref C) &&
  (exqF (PySem.W.findIn K (.ref C) f) (some none) && (exqF (PySem.W.findIn K (.ref C) "__init__") (some (some (.ref fI))) && decide (PySem.W.typeIn K (.ref fI) = some (.type "function"))))))))
theorem errLB_ok {K : PySem.W.Frag} {C fI : Addr} {f : Str} (h : errLB K C fI f = true) : ErL K C fI f := by
  unfold errLB at h
  obtain ⟨h1, h⟩ := Bool.and_eq_true_iff.mp h
  obtain ⟨h2, h⟩ := Bool.and_eq_true_iff.mp h
  obtain ⟨h3, h⟩ := Bool.and_eq_true_iff.mp h
  obtain ⟨h4, h⟩ := Bool.and_eq_true_iff.mp h
  obtain ⟨h5, h⟩ := Bool.and_eq_true_iff.mp h
  obtain ⟨h6, h⟩ := Bool.and_eq_true_iff.mp h
  obtain ⟨h7, h8⟩ := Bool.and_eq_true_iff.mp h
  exact ⟨⟨oexLB_ok h1, exqF_ok h2, of_decide_eq_true h3, of_decide_eq_true h4, h5⟩, exqF_ok h6, exqF_ok h7, of_decide_eq_true h8⟩
def mk0B (K : PySem.W.Frag) (C : Addr) : Bool := (PySem.W.excIn K C [.type "ValueError", .type "Exception", .type "BaseException", .type "object"] "ValueError.__new__" || PySem.W.excIn K C leT "LookupError.__new__") && (PySem.W.keepIn K (.ref C) &&
  (decide (PySem.W.subIn K (.ref C) (.type "BaseException") = some true) && decide (PySem.W.typeIn K (.ref C) = some (.type "type"))))
theorem mk0B_ok {K : PySem.W.Frag} {mg : Str → Option Value} {cn : Str} (h : mk0B K (He.ga K cn) = true) (g : mg cn = some (.ref (He.ga K cn))) : Mk0 K mg cn := by
  unfold mk0B at h
  obtain ⟨h1, h⟩ := Bool.and_eq_true_iff.mp h
  obtain ⟨h2, h⟩ := Bool.and_eq_true_iff.mp h
  obtain ⟨h3, h4⟩ := Bool.and_eq_true_iff.mp h
  exact ⟨h1, h2, of_decide_eq_true h3, of_decide_eq_true h4, g⟩
end Bf
namespace Bf
open PySem PySem.Spec PyProof.Rows L2
theorem scPot : FnScope ["_law_script", "_law_k", "_law_cell", "_law_great"] ["_law_script", "_law_k"] (defScope sPot) := ⟨rfl, rfl, rfl, by decide +kernel, rfl, by decide +kernel, by decide +kernel⟩
theorem scTake : FnScope ["_law_pot_here", "_law_upto", "_law_digit", "_law_primes", "_law_prime", "_law_drawn"] ["_law_pot_here", "_law_upto"] (defScope sTake) := ⟨rfl, rfl, rfl, by decide +kernel, rfl, by decide +kernel, by decide +kernel⟩
section
variable {P : Program} {w : World} {K : PySem.W.Frag} {mg : Str → Option Value} {base : Heap} {f fT fO fF : Addr} {fd fdT fdO fdF : FuncData} {k : Nat}
/-! ### pot -/
def spPot (K : PySem.W.Frag) : Sp := fun vs H Q _ => ∃ (a : Addr) (ns : List Int) (k : Nat), vs = [.ref a, .int k] ∧ SqL K H a (ns.map V.int) ∧ ns.length ≤ 63 ∧ k ≤ 100 ∧
  ∀ H' p, Same H H' → H p = none → Pot H' p 0 → Q (.ref p) H'
theorem ok_pot (F : Fun K "_law_pot" "_law_pot" sPot f fd) (ml : mg "len" = none) (ma : mg "abs" = none) (mi : mg "int" = none) : FnOk P w K mg base CX0 (k + 1) f fd ["_law_script", "_law_k"] (spPot K) := by
  refine F.ok scPot (fun vs H Q E h => ?_) (fun cdv A outer s H vs Q E hr h => ?_)
  · obtain ⟨a, ns, k, rfl, _⟩ := h
    rfl
  · obtain ⟨a, ns, k, rfl, hS, hl, hk, q⟩ := h
    refine ⟨_, pss_cons (ps_set (i := 2) scPot.nd rfl (.inl rfl) (pe_ifExp (pt_cmpR op_lt (pv 1) (pe_callB call_len_seq (by rfl) ml PySem.boot_len (pa_cons (pv 0) pa_nil)) (nomark _)) (pe_ix ix_list (pv 0) (pv 1) (fun _ _ => rfl)) pe_int))
      (pss_cons (ps_set (i := 3) scPot.nd rfl (.inl rfl) (pe_op op_mul (pe_op op_mod (pe_callB call_abs (by rfl) ma (by decide +kernel) (pa_cons (pv 2) pa_nil)) (pe_op op_mulW (pe_op op_mulW (pe_op op_pow pe_int pe_int) (pe_op op_pow pe_int pe_int)) (pe_op op_pow pe_int pe_int)))
        (pe_callTy call_int1 (by rfl) mi (by decide +kernel) (pa_cons (pe_cmpR op_ge (pe_callB call_abs (by rfl) ma (by decide +kernel) (pa_cons (pv 2) pa_nil)) (pe_op op_pow pe_int pe_int) (nomark _)) pa_nil))))
      (pss_one (ps_ret (pe_lst (pa_cons (pv 3) (pa_cons (pe_op op_add (pe_op op_add (pe_op op_mod (pv 2) pe_int) (pe_op op_mul pe_int (pv 1))) pe_int) (pa_cons pe_int pa_nil))))))), ?_⟩
    have fin : ∀ (x y : Int), 0 ≤ x → 0 ≤ y → y < 4611686018427387904 → ∀ p, H p = none → Q (.ref p) (upd H p (.lst [.int x, .int y, .int 0])) := fun x y h1 h2 h3 p np =>
      q _ p (same_new (Same.refl H) np) np ⟨x, y, 0, upd_same, h1, h2, h3, by omega, by omega⟩
    refine rd_ifI (decide ((k : Int) < ((ns.map V.int).length : Int))) (fun _ => True) ?_ ?_ ?_ ?_
    · exact fun Q' h => ⟨.int k, rfl, .ref a, rfl, a, _, rfl, .inl hS, _, _, rfl, rfl, _, rfl, h⟩
    · intro e
      have z : (k : Int) < ((ns.map V.int).length : Int) := of_decide_eq_true e
      rw [List.length_map] at z
      have z2 : k < ns.length := by omega
      exact ⟨ns[k], trivial, fun Q' h => ⟨.ref a, rfl, .int k, rfl, a, _, _, _, rfl, rfl, hS, atI_nat (j := k) (by rw [List.getElem?_map, List.getElem?_eq_getElem z2]; rfl), h⟩⟩
    · exact fun _ => ⟨0, trivial, fun Q' h => h⟩
    intro c _
    dsimp only [gName, tSeq, tAsg]
    refine ⟨.int c, rfl, c, rfl, _, _, rfl, rfl, ⟨by decide, by decide, by decide⟩, _, _, rfl, rfl, ⟨by decide, by decide, by decide⟩, _, _, rfl, rfl, wide_mul (a := 200) (b := 200) (by decide +kernel) (by decide +kernel) (by decide) (by decide) (by decide), _, _, rfl, rfl, ⟨by decide, by decide, by decide⟩, _, _, rfl, rfl, wide_mul (a := 400) (b := 200) (by decide +kernel) (by decide +kernel) (by decide) (by decide) (by decide), _, _, rfl, rfl, (show (0 : Int) < (10 : Int) ^ (60 : Int).toNat * (10 : Int) ^ (60 : Int).toNat * (10 : Int) ^ (60 : Int).toNat by decide +kernel),
      .int c, rfl, c, rfl, _, _, rfl, rfl, ⟨by decide, by decide, by decide⟩, _, _, rfl, rfl, .inr ⟨_, rfl, ?_⟩⟩
    generalize decide ((10 : Int) ^ (18 : Int).toNat ≤ _) = bb
    have hpos : (0 : Int) ≤ (if c < 0 then -c else c) % ((10 : Int) ^ (60 : Int).toNat * (10 : Int) ^ (60 : Int).toNat * (10 : Int) ^ (60 : Int).toNat) := Int.emod_nonneg _ (by decide +kernel)
    refine ⟨_, _, rfl, rfl, .inr ?_, ?_⟩
    · cases bb <;> exact ⟨by decide, by decide⟩
    have hown : (0 : Int) ≤ (if c < 0 then -c else c) % ((10 : Int) ^ (60 : Int).toNat * (10 : Int) ^ (60 : Int).toNat * (10 : Int) ^ (60 : Int).toNat) * (if bb = true then 1 else 0) := Int.mul_nonneg hpos (by cases bb <;> decide)
    refine ⟨_, rfl, .int c, rfl, _, _, rfl, rfl, (show (0 : Int) < 2305843009213693951 by decide), .int k, rfl, _, _, rfl, rfl, .inl ⟨by decide, by decide⟩, _, _, rfl, rfl, _, _, rfl, rfl, (by show 3 ≤ sizeLine; decide), fun p np => ?_⟩
    have h1 : 0 ≤ c % 2305843009213693951 := Int.emod_nonneg _ (by decide)
    have h2 : c % 2305843009213693951 < 2305843009213693951 := Int.emod_lt_of_pos _ (by decide)
    exact fin _ _ hown (by omega) (by omega) p np
/-! ### take -/
theorem primes8 (n : Int) (h0 : 0 ≤ n) (h : n < 8) : ∃ v : Int, atI [V.int 2147483647, .int 2147483629, .int 2147483587, .int 2147483579, .int 2147483563, .int 2147483549, .int 2147483543, .int 2147483497] n = some (.int v) ∧ 0 < v ∧ v ≤ 2147483647 := by
  obtain ⟨m, rfl⟩ := Int.eq_ofNat_of_zero_le h0
  match m, h with
  | 0, _ => exact ⟨_, rfl, by decide, by decide⟩
  | 1, _ => exact ⟨_, rfl, by decide, by decide⟩
  | 2, _ => exact ⟨_, rfl, by decide, by decide⟩
  | 3, _ => exact ⟨_, rfl, by decide, by decide⟩
  | 4, _ => exact ⟨_, rfl, by decide, by decide⟩
  | 5, _ => exact ⟨_, rfl, by decide, by decide⟩
  | 6, _ => exact ⟨_, rfl, by decide, by decide⟩
  | 7, _ => exact ⟨_, rfl, by decide, by decide⟩
def spTake : Sp := fun vs H Q _ => ∃ (a : Addr) (n m : Nat), vs = [.ref a, .int n] ∧ 0 < n ∧ n < 2 ^ 100 ∧ Pot H a m ∧ m < 100000 ∧ ∀ (r : Nat) H', r < n → Keeps a H H' → Pot H' a (m + 1) → Q (.int r) H'
theorem ok_take (F : Fun K "_law_take" "_law_take" sTake f fd) : FnOk P w K mg base CX0 (k + 1) f fd ["_law_pot_here", "_law_upto"] spTake := by
  refine F.ok scTake (fun vs H Q E h => ?_) (fun cdv A outer s H vs Q E hr h => ?_)
  · obtain ⟨a, n, m, rfl, _⟩ := h
    rfl
  · obtain ⟨a, n, m, rfl, hn, hn2, ⟨x, y, z, hH, hx, hy, hy2, hz, hz2⟩, hm, q⟩ := h
    refine ⟨_, pss_cons (ps_if (pt_cmpR op_gt (pe_ix ix_list (pv 0) pe_int (fun _ _ => rfl)) pe_int (nomark _))
        (pss_cons (ps_set (i := 2) scTake.nd rfl (.inl rfl) (pe_op op_mod (pe_ix ix_list (pv 0) pe_int (fun _ _ => rfl)) (pv 1)))
        (pss_cons (ps_asg (pe_op op_fdivW (pe_ix ix_list (pv 0) pe_int (fun _ _ => rfl)) (pv 1)) (pg_sub (pv 0) pe_int set_list))
        (pss_one (ps_ret (pv 2))))) pss_nil)
      (pss_cons (ps_asg (pe_op op_add (pe_ix ix_list (pv 0) pe_int (fun _ _ => rfl)) pe_int) (pg_sub (pv 0) pe_int set_list))
      (pss_cons (ps_set (i := 3) scTake.nd rfl (.inl rfl) (pe_lst (pa_cons pe_int (pa_cons pe_int (pa_cons pe_int (pa_cons pe_int (pa_cons pe_int (pa_cons pe_int (pa_cons pe_int (pa_cons pe_int pa_nil))))))))))
      (pss_cons (ps_set (i := 4) scTake.nd rfl (.inl rfl) (pe_ix ix_list (pv 3) (pe_op op_mod (pe_ix ix_list (pv 0) pe_int (fun _ _ => rfl)) pe_int) (fun _ _ => rfl)))
      (pss_cons (ps_set (i := 5) scTake.nd rfl (.inl rfl) (pe_op op_add (pe_op op_mod (pe_op op_mod (pe_op op_add (pe_ix ix_list (pv 0) pe_int (fun _ _ => rfl)) (pe_op op_mul (pe_op op_mul pe_int (pe_ix ix_list (pv 0) pe_int (fun _ _ => rfl))) (pe_ix ix_list (pv 0) pe_int (fun _ _ => rfl)))) (pe_op op_pow (pv 4) pe_int)) (pv 4)) pe_int))
      (pss_one (ps_ret (pe_op op_mod (pe_op op_fdiv (pe_op op_mod (pe_op op_mul (pv 5) (pe_op op_add (pe_op op_mod (pv 5) pe_int) (pe_ix ix_list (pv 0) pe_int (fun _ _ => rfl)))) (pv 4)) pe_int) (pv 1)))))))), ?_⟩
    have hL : SqL K H a [.int x, .int y, .int z] := .inl (.inl hH)
    have hnI : (0 : Int) < (n : Int) := by omega
    refine ⟨.ref a, rfl, a, _, _, .int x, rfl, rfl, hL, rfl, _, _, rfl, rfl, _, rfl, ite2 (fun e => ?_) (fun e => ?_)⟩
    · obtain ⟨r, er, hr2⟩ := nat_of (n := n) (Int.emod_nonneg x (Int.ne_of_gt hnI)) (Int.emod_lt_of_pos x hnI)
      refine ⟨.ref a, rfl, a, _, _, .int x, rfl, rfl, hL, rfl, .int n, rfl, _, _, rfl, rfl, hnI, ?_⟩
      refine ⟨.ref a, rfl, a, _, _, .int x, rfl, rfl, hL, rfl, .int n, rfl, _, _, rfl, rfl, wide_div (b := 100) hnI (by show (n : Int).natAbs < 2 ^ 100; omega) (by decide) (by decide), .ref a, rfl, a, _, _, 0, rfl, rfl, hH, rfl, .int (x % n), rfl, ?_⟩
      rw [er]
      exact q r _ hr2 (Keeps.refl a H).at ⟨x / n, y, z, upd_same, Int.ediv_nonneg hx (Int.le_of_lt hnI), hy, hy2, hz, by omega⟩
    · refine ⟨.ref a, rfl, a, _, _, .int z, rfl, rfl, hL, rfl, _, _, rfl, rfl, .ref a, rfl, a, _, _, 2, rfl, rfl, hH, rfl, (by show 8 ≤ sizeLine; decide), fun p np => ?_⟩
      obtain ⟨v, hv, hv0, hv1⟩ := primes8 ((z + 1) % 8) (Int.emod_nonneg _ (by decide)) (Int.emod_lt_of_pos _ (by decide))
      have hap : a ≠ p := fun e => by
        rw [← e, upd_same] at np
        cases np
      have hL2 : SqL K (upd (upd H a (.lst [.int x, .int y, .int (z + 1)])) p (.lst [V.int 2147483647, .int 2147483629, .int 2147483587, .int 2147483579, .int 2147483563, .int 2147483549, .int 2147483543, .int 2147483497])) a [.int x, .int y, .int (z + 1)] := .inl (.inl (by rw [upd_ne hap, upd_same]))
      refine ⟨.ref p, rfl, .ref a, rfl, a, _, _, .int (z + 1), rfl, rfl, hL2, rfl, _, _, rfl, rfl, (show (0 : Int) < 8 by decide), p, _, _, .int v, rfl, rfl, .inl (.inl upd_same), hv, ?_⟩
      have hv2 : (0 : Int) < v ^ (2 : Int).toNat := by
        show (0 : Int) < v ^ 2
        exact Int.pow_pos hv0
      refine ⟨.ref a, rfl, a, _, _, .int y, rfl, rfl, hL2, rfl, .ref a, rfl, a, _, _, .int (z + 1), rfl, rfl, hL2, rfl, _, _, rfl, rfl, .inl ⟨by decide, by decide⟩, .ref a, rfl, a, _, _, .int (z + 1), rfl, rfl, hL2, rfl, _, _, rfl, rfl, .inr ⟨by omega, by omega⟩, _, _, rfl, rfl,
        .int v, rfl, _, _, rfl, rfl, ⟨by decide, by decide, by omega⟩, _, _, rfl, rfl, hv2, .int v, rfl, _, _, rfl, rfl, hv0, _, _, rfl, rfl, ?_⟩
      generalize eg : (y + 69621 * (z + 1) * (z + 1)) % v ^ (2 : Int).toNat % v + 1 = mx
      have m0 : 0 ≤ mx := by
        have := Int.emod_nonneg ((y + 69621 * (z + 1) * (z + 1)) % v ^ (2 : Int).toNat) (Int.ne_of_gt hv0)
        omega
      have m1 : mx < 2147483649 := by
        have := Int.emod_lt_of_pos ((y + 69621 * (z + 1) * (z + 1)) % v ^ (2 : Int).toNat) hv0
        omega
      refine ⟨_, rfl, _, rfl, _, _, rfl, rfl, (show (0 : Int) < 1009 by decide), .ref a, rfl, a, _, _, .int (z + 1), rfl, rfl, hL2, rfl, _, _, rfl, rfl, _, _, rfl, rfl, .inl ⟨by omega, by omega⟩, .int v, rfl, _, _, rfl, rfl, hv0, _, _, rfl, rfl, ⟨by decide, by decide⟩, .int n, rfl, _, _, rfl, rfl, hnI, ?_⟩
      generalize (_ : Int) / 7 = g
      obtain ⟨r, er, hr2⟩ := nat_of (n := n) (Int.emod_nonneg g (Int.ne_of_gt hnI)) (Int.emod_lt_of_pos g hnI)
      show Q (.int (g % n)) _
      rw [er]
      refine q r _ hr2 ((Keeps.refl a H).at.new np) ⟨x, y, z + 1, by rw [upd_ne hap, upd_same]; rfl, hx, hy, hy2, by omega, by omega⟩
end
/-! ### of -/
section
variable {P : Program} {w : World} {K : PySem.W.Frag} {mg : Str → Option Value} {base : Heap} {f fT fO fF : Addr} {fd fdT fdO fdF : FuncData} {k : Nat}
theorem scOf : FnScope ["_law_pot_here", "_law_some"] ["_law_pot_here", "_law_some"] (defScope sOf) := ⟨rfl, rfl, rfl, by decide +kernel, rfl, by decide +kernel, by decide +kernel⟩
def spOf (K : PySem.W.Frag) : Sp := fun vs H Q _ => ∃ (a b : Addr) (xs : List V) (m : Nat), vs = [.ref a, .ref b] ∧ (∀ H', Keeps a H H' → SqL K H' b xs) ∧ 0 < xs.length ∧ xs.length < 1073741824 ∧ Pot H a m ∧ m < 100000 ∧ ∀ v H', v ∈ xs → Keeps a H H' → Pot H' a (m + 1) → Q v H'
theorem ok_of (F : Fun K "_law_of" "_law_of" sOf f fd) (GT : FnOk P w K mg base CX0 1 fT fdT ["_law_pot_here", "_law_upto"] spTake) (kT : PySem.W.keepIn K (.ref fT) = true) (bT : Binds K fdT ["_law_pot_here", "_law_upto"] []) (gT : mg "_law_take" = some (.ref fT)) (ml : mg "len" = none) :
    FnOk P w K mg base CX0 2 f fd ["_law_pot_here", "_law_some"] (spOf K) := by
  refine F.ok scOf (fun vs H Q E h => ?_) (fun cdv A outer s H vs Q E hr h => ?_)
  · obtain ⟨a, b, xs, m, rfl, _⟩ := h
    rfl
  · obtain ⟨a, b, xs, m, rfl, hS, h0, h1, hp, hm, q⟩ := h
    refine ⟨_, pss_one (ps_ret (pe_ix ix_list (pv 1) (pe_call GT hr (by rfl) gT kT bT .nil pass0 (pa_cons (pv 0) (pa_cons (pe_callB call_len_seq (by rfl) ml PySem.boot_len (pa_cons (pv 1) pa_nil)) pa_nil))) (fun _ _ => rfl))), ?_⟩
    refine ⟨.ref b, rfl, .ref a, rfl, .ref b, rfl, b, xs, rfl, .inl (hS H (Keeps.refl a H)), a, xs.length, m, rfl, h0, by omega, hp, hm, fun r H' hr1 kp hp' => ?_⟩
    refine ⟨b, xs, r, xs[r], rfl, rfl, hS H' kp, atI_nat (List.getElem?_eq_getElem hr1), ?_⟩
    exact q _ H' (List.getElem_mem hr1) kp hp'
end

/-- the next number below a size, up to 2 ^ 100 -/
def takeB (size : Nat) : M Nat := fun n P => (0 < size ∧ size < 2 ^ 100 ∧ n < 100000) ∧ ∀ r, r < size → P r (n + 1)
section
variable {P : Program} {w : World} {K : PySem.W.Frag} {mg : Str → Option Value} {base : Heap} {f : Addr} {fd : FuncData} {k : Nat} {T : List (Addr × Str)}
theorem ad_take (F : FnOk P w K mg base CX0 k f fd ["_law_pot_here", "_law_upto"] spTake) : FnOk P w K mg base CX0 k f fd ["_law_pot_here", "_law_upto"] (spP1 K T takeB) := F.imp fun vs H Q E h => by
  obtain ⟨q, n, a, v, f1, rfl, ⟨i1, j1⟩, tb, pp, P0, ⟨⟨h1, h2, h3⟩, hd⟩, hq⟩ := h
  cases i1
  exact ⟨q, a, n, rfl, h1, h2, pp, h3, fun r H' lr kk p' => hq r (n + 1) _ H' [] (hd r lr) (af_keeps pp kk p') (.int _) List.nodup_nil fun b hb => absurd hb List.not_mem_nil⟩
theorem ad_of {α : Type} [Enc α] [Pu α] (F : FnOk P w K mg base CX0 k f fd ["_law_pot_here", "_law_some"] (spOf K)) : FnOk P w K mg base CX0 k f fd ["_law_pot_here", "_law_some"] (spP1 K T (ofW (α := α))) := F.imp fun vs H Q E h => by
  obtain ⟨q, n, xs, v, f1, rfl, ⟨i1, j1⟩, tb, pp, P0, ⟨⟨h1, h2, h3⟩, hd⟩, hq⟩ := h
  obtain ⟨a, ws, fq, rfl, hT, hA, e⟩ := im_lst i1
  have z := ima_pu hA
  subst z e
  have hl := hA.len
  rw [List.length_map] at hl
  have hne : a ≠ q := j1 a List.mem_cons_self
  refine ⟨q, a, ws, n, rfl, fun H' kk => .inl (.inl (kk _ _ hne hT)), by omega, by omega, pp, h3, fun v H' hv kk p' => ?_⟩
  obtain ⟨x, hx, im⟩ := ima_mem hA hv
  have af := af_keeps (K := K) (T := T) pp kk p'
  exact hq x (n + 1) _ H' [] (hd x hx) af (im.af (po := some q) (fun b hb => absurd hb List.not_mem_nil) af.fr) List.nodup_nil fun b hb => absurd hb List.not_mem_nil
theorem urn_pot {Bs : Addr → HO → Prop} {po : Option Addr} {ρ : List Sl} {φ : Nat → List Addr} {σ : L2.St} {H : Hp} {n : Nat} {ns : List Int} {kk i2 : Nat} {Q : VK} (st : ST K T Bs po ρ φ σ H n) (hi : ρ[0]? = some (.scr ns)) (hk : ρ[i2]? = some (.own (enc kk))) (c : ns.length ≤ 63 ∧ kk ≤ 100)
    (q : ∀ a H', Same H H' → H a = none → Pot H' a 0 → Q (.ref a) H') : tCall (spPot K) [] E0 (tCons (tVar 0) (tCons (tVar i2) tNil)) σ H Q := by
  obtain ⟨a, h1, h2⟩ := scr_sql st hi
  obtain ⟨v, e1, e2, _⟩ := st.sl i2 _ hk
  generalize φ i2 = fp at e2
  cases e2
  exact ⟨_, h1, _, e1, a, ns, kk, rfl, h2, c.1, c.2, fun H' p s np pt => q p H' s np pt⟩
end
end Bf
namespace Bf
open PySem PySem.Spec PyProof.Rows L2 LamX NdefX
noncomputable section
variable {P : Program} {w : World} {K : PySem.W.Frag} {mg : Str → Option Value} {base : Heap} {f : Addr} {fd : FuncData} {k : Nat} {T : List (Addr × Str)}
def errCs : List Str := ["NoInverse", "TooFew", "BadNumbers", "BadHouse", "BadRows", "NoNumber", "NoText", "NoLine", "Early", "Busy", "Bad", "NoHand", "NoBit", "NoLetter", "NoTree", "Ended", "Idle"]
def errOwn : List Str := ["NoInverse", "TooFew", "BadNumbers", "BadHouse", "BadRows", "NoNumber", "NoText", "NoLine", "Early", "Busy", "Bad", "NoHand", "NoBit", "NoLetter", "NoTree", "Ended", "Idle", "NotSo", "Gone"]
def errBlt : List String := ["ValueError", "LookupError"]
def errFl : List (Str × Str) := [("NoInverse", "number"), ("TooFew", "many"), ("BadNumbers", "thing"), ("BadHouse", "thing"), ("BadRows", "thing"), ("NoNumber", "thing"), ("NoText", "row"), ("NoLine", "thing"), ("Early", "beats"), ("Bad", "hand"), ("NoHand", "thing"), ("NoBit", "thing"), ("NoLetter", "thing"), ("NoTree", "thing")]
def errSup (a b : Str) : Bool := decide ((a, b) ∈ ([(("NoInverse" : Str), ("NoInverse" : Str)), (("TooFew" : Str), ("TooFew" : Str)), (("BadNumbers" : Str), ("BadNumbers" : Str)), (("BadHouse" : Str), ("BadHouse" : Str)), (("BadRows" : Str), ("BadRows" : Str)), (("NoNumber" : Str), ("NoNumber" : Str)), (("NoText" : Str), ("NoText" : Str)), (("NoLine" : Str), ("NoLine" : Str)), (("Early" : Str), ("Early" : Str)), (("Busy" : Str), ("Busy" : Str)), (("Bad" : Str), ("Bad" : Str)), (("NoHand" : Str), ("NoHand" : Str)), (("NoBit" : Str), ("NoBit" : Str)), (("NoLetter" : Str), ("NoLetter" : Str)), (("NoTree" : Str), ("NoTree" : Str)), (("Ended" : Str), ("Ended" : Str)), (("Idle" : Str), ("Idle" : Str)), (("NoInverse" : Str), ("NotSo" : Str)), (("TooFew" : Str), ("NotSo" : Str)), (("BadNumbers" : Str), ("NotSo" : Str)), (("BadHouse" : Str), ("NotSo" : Str)), (("BadRows" : Str), ("NotSo" : Str)), (("NoNumber" : Str), ("NotSo" : Str)), (("NoText" : Str), ("NotSo" : Str)), (("NoLine" : Str), ("NotSo" : Str)), (("Early" : Str), ("NotSo" : Str)), (("Busy" : Str), ("NotSo" : Str)), (("Bad" : Str), ("NotSo" : Str)), (("NoInverse" : Str), ("ValueError" : Str)), (("TooFew" : Str), ("ValueError" : Str)), (("BadNumbers" : Str), ("ValueError" : Str)), (("BadHouse" : Str), ("ValueError" : Str)), (("BadRows" : Str), ("ValueError" : Str)), (("NoNumber" : Str), ("ValueError" : Str)), (("NoText" : Str), ("ValueError" : Str)), (("NoLine" : Str), ("ValueError" : Str)), (("Early" : Str), ("ValueError" : Str)), (("Busy" : Str), ("ValueError" : Str)), (("Bad" : Str), ("ValueError" : Str)), (("NoHand" : Str), ("Gone" : Str)), (("NoBit" : Str), ("Gone" : Str)), (("NoLetter" : Str), ("Gone" : Str)), (("NoTree" : Str), ("Gone" : Str)), (("Ended" : Str), ("Gone" : Str)), (("Idle" : Str), ("Gone" : Str)), (("NoHand" : Str), ("LookupError" : Str)), (("NoBit" : Str), ("LookupError" : Str)), (("NoLetter" : Str), ("LookupError" : Str)), (("NoTree" : Str), ("LookupError" : Str)), (("Ended" : Str), ("LookupError" : Str)), (("Idle" : Str), ("LookupError" : Str))] : List (Str × Str)))
theorem scIniNoInverse : FnScope ["self", "number"] ["self", "number"] (defScope sIniNoInverse) := ⟨rfl, rfl, rfl, by decide +kernel, rfl, by decide +kernel, by decide +kernel⟩
theorem ok_iniNoInverse {C fI : Addr} (E : ErK K C fI "number") (F : FunD K "__init__" "NoInverse.__init__" (defArgs sIniNoInverse) (defBody sIniNoInverse) (defScope sIniNoInverse) [] [] f fd) : FnOk P w K mg base CX0 1 f fd ["self", "number"] (spIni K C "number") := by
  refine FunQ.go F scIniNoInverse (fun vs H Q E h => ?_) (fun cdv A outer s H vs Q E_ hr h => ?_)
  · exact spIni_len h
  · obtain ⟨a, y, rfl, ha, q⟩ := h
    refine ⟨_, pss_one (ps_ost (pv 0) (pv 1)), ?_⟩
    exact ⟨y, rfl, .ref a, rfl, a, C, rfl, E.oe, E.no, .inl ⟨ha, fun dx n1 n2 => q dx n1 n2⟩⟩
theorem scIniTooFew : FnScope ["self", "many"] ["self", "many"] (defScope sIniTooFew) := ⟨rfl, rfl, rfl, by decide +kernel, rfl, by decide +kernel, by decide +kernel⟩
theorem ok_iniTooFew {C fI : Addr} (E : ErK K C fI "many") (F : FunD K "__init__" "TooFew.__init__" (defArgs sIniTooFew) (defBody sIniTooFew) (defScope sIniTooFew) [] [] f fd) : FnOk P w K mg base CX0 1 f fd ["self", "many"] (spIni K C "many") := by
  refine FunQ.go F scIniTooFew (fun vs H Q E h => ?_) (fun cdv A outer s H vs Q E_ hr h => ?_)
  · exact spIni_len h
  · obtain ⟨a, y, rfl, ha, q⟩ := h
    refine ⟨_, pss_one (ps_ost (pv 0) (pv 1)), ?_⟩
    exact ⟨y, rfl, .ref a, rfl, a, C, rfl, E.oe, E.no, .inl ⟨ha, fun dx n1 n2 => q dx n1 n2⟩⟩
theorem scIniBadNumbers : FnScope ["self", "thing"] ["self", "thing"] (defScope sIniBadNumbers) := ⟨rfl, rfl, rfl, by decide +kernel, rfl, by decide +kernel, by decide +kernel⟩
theorem ok_iniBadNumbers {C fI : Addr} (E : ErK K C fI "thing") (F : FunD K "__init__" "BadNumbers.__init__" (defArgs sIniBadNumbers) (defBody sIniBadNumbers) (defScope sIniBadNumbers) [] [] f fd) : FnOk P w K mg base CX0 1 f fd ["self", "thing"] (spIni K C "thing") := by
  refine FunQ.go F scIniBadNumbers (fun vs H Q E h => ?_) (fun cdv A outer s H vs Q E_ hr h => ?_)
  · exact spIni_len h
  · obtain ⟨a, y, rfl, ha, q⟩ := h
    refine ⟨_, pss_one (ps_ost (pv 0) (pv 1)), ?_⟩
    exact ⟨y, rfl, .ref a, rfl, a, C, rfl, E.oe, E.no, .inl ⟨ha, fun dx n1 n2 => q dx n1 n2⟩⟩
theorem scIniBadHouse : FnScope ["self", "thing"] ["self", "thing"] (defScope sIniBadHouse) := ⟨rfl, rfl, rfl, by decide +kernel, rfl, by decide +kernel, by decide +kernel⟩
theorem ok_iniBadHouse {C fI : Addr} (E : ErK K C fI "thing") (F : FunD K "__init__" "BadHouse.__init__" (defArgs sIniBadHouse) (defBody sIniBadHouse) (defScope sIniBadHouse) [] [] f fd) : FnOk P w K mg base CX0 1 f fd ["self", "thing"] (spIni K C "thing") := by
  refine FunQ.go F scIniBadHouse (fun vs H Q E h => ?_) (fun cdv A outer s H vs Q E_ hr h => ?_)
  · exact spIni_len h
  · obtain ⟨a, y, rfl, ha, q⟩ := h
    refine ⟨_, pss_one (ps_ost (pv 0) (pv 1)), ?_⟩
    exact ⟨y, rfl, .ref a, rfl, a, C, rfl, E.oe, E.no, .inl ⟨ha, fun dx n1 n2 => q dx n1 n2⟩⟩
theorem scIniBadRows : FnScope ["self", "thing"] ["self", "thing"] (defScope sIniBadRows) := ⟨rfl, rfl, rfl, by decide +kernel, rfl, by decide +kernel, by decide +kernel⟩
theorem ok_iniBadRows {C fI : Addr} (E : ErK K C fI "thing") (F : FunD K "__init__" "BadRows.__init__" (defArgs sIniBadRows) (defBody sIniBadRows) (defScope sIniBadRows) [] [] f fd) : FnOk P w K mg base CX0 1 f fd ["self", "thing"] (spIni K C "thing") := by
  refine FunQ.go F scIniBadRows (fun vs H Q E h => ?_) (fun cdv A outer s H vs Q E_ hr h => ?_)
  · exact spIni_len h
  · obtain ⟨a, y, rfl, ha, q⟩ := h
    refine ⟨_, pss_one (ps_ost (pv 0) (pv 1)), ?_⟩
    exact ⟨y, rfl, .ref a, rfl, a, C, rfl, E.oe, E.no, .inl ⟨ha, fun dx n1 n2 => q dx n1 n2⟩⟩
theorem scIniNoNumber : FnScope ["self", "thing"] ["self", "thing"] (defScope sIniNoNumber) := ⟨rfl, rfl, rfl, by decide +kernel, rfl, by decide +kernel, by decide +kernel⟩
theorem ok_iniNoNumber {C fI : Addr} (E : ErK K C fI "thing") (F : FunD K "__init__" "NoNumber.__init__" (defArgs sIniNoNumber) (defBody sIniNoNumber) (defScope sIniNoNumber) [] [] f fd) : FnOk P w K mg base CX0 1 f fd ["self", "thing"] (spIni K C "thing") := by
  refine FunQ.go F scIniNoNumber (fun vs H Q E h => ?_) (fun cdv A outer s H vs Q E_ hr h => ?_)
  · exact spIni_len h
  · obtain ⟨a, y, rfl, ha, q⟩ := h
    refine ⟨_, pss_one (ps_ost (pv 0) (pv 1)), ?_⟩
    exact ⟨y, rfl, .ref a, rfl, a, C, rfl, E.oe, E.no, .inl ⟨ha, fun dx n1 n2 => q dx n1 n2⟩⟩
theorem scIniNoText : FnScope ["self", "row"] ["self", "row"] (defScope sIniNoText) := ⟨rfl, rfl, rfl, by decide +kernel, rfl, by decide +kernel, by decide +kernel⟩
theorem ok_iniNoText {C fI : Addr} (E : ErK K C fI "row") (F : FunD K "__init__" "NoText.__init__" (defArgs sIniNoText) (defBody sIniNoText) (defScope sIniNoText) [] [] f fd) : FnOk P w K mg base CX0 1 f fd ["self", "row"] (spIni K C "row") := by
  refine FunQ.go F scIniNoText (fun vs H Q E h => ?_) (fun cdv A outer s H vs Q E_ hr h => ?_)
  · exact spIni_len h
  · obtain ⟨a, y, rfl, ha, q⟩ := h
    refine ⟨_, pss_one (ps_ost (pv 0) (pv 1)), ?_⟩
    exact ⟨y, rfl, .ref a, rfl, a, C, rfl, E.oe, E.no, .inl ⟨ha, fun dx n1 n2 => q dx n1 n2⟩⟩
theorem scIniNoLine : FnScope ["self", "thing"] ["self", "thing"] (defScope sIniNoLine) := ⟨rfl, rfl, rfl, by decide +kernel, rfl, by decide +kernel, by decide +kernel⟩
theorem ok_iniNoLine {C fI : Addr} (E : ErK K C fI "thing") (F : FunD K "__init__" "NoLine.__init__" (defArgs sIniNoLine) (defBody sIniNoLine) (defScope sIniNoLine) [] [] f fd) : FnOk P w K mg base CX0 1 f fd ["self", "thing"] (spIni K C "thing") := by
  refine FunQ.go F scIniNoLine (fun vs H Q E h => ?_) (fun cdv A outer s H vs Q E_ hr h => ?_)
  · exact spIni_len h
  · obtain ⟨a, y, rfl, ha, q⟩ := h
    refine ⟨_, pss_one (ps_ost (pv 0) (pv 1)), ?_⟩
    exact ⟨y, rfl, .ref a, rfl, a, C, rfl, E.oe, E.no, .inl ⟨ha, fun dx n1 n2 => q dx n1 n2⟩⟩
theorem scIniEarly : FnScope ["self", "beats"] ["self", "beats"] (defScope sIniEarly) := ⟨rfl, rfl, rfl, by decide +kernel, rfl, by decide +kernel, by decide +kernel⟩
theorem ok_iniEarly {C fI : Addr} (E : ErK K C fI "beats") (F : FunD K "__init__" "Early.__init__" (defArgs sIniEarly) (defBody sIniEarly) (defScope sIniEarly) [] [] f fd) : FnOk P w K mg base CX0 1 f fd ["self", "beats"] (spIni K C "beats") := by
  refine FunQ.go F scIniEarly (fun vs H Q E h => ?_) (fun cdv A outer s H vs Q E_ hr h => ?_)
  · exact spIni_len h
  · obtain ⟨a, y, rfl, ha, q⟩ := h
    refine ⟨_, pss_one (ps_ost (pv 0) (pv 1)), ?_⟩
    exact ⟨y, rfl, .ref a, rfl, a, C, rfl, E.oe, E.no, .inl ⟨ha, fun dx n1 n2 => q dx n1 n2⟩⟩
theorem scIniBad : FnScope ["self", "hand"] ["self", "hand"] (defScope sIniBad) := ⟨rfl, rfl, rfl, by decide +kernel, rfl, by decide +kernel, by decide +kernel⟩
theorem ok_iniBad {C fI : Addr} (E : ErK K C fI "hand") (F : FunD K "__init__" "Bad.__init__" (defArgs sIniBad) (defBody sIniBad) (defScope sIniBad) [] [] f fd) : FnOk P w K mg base CX0 1 f fd ["self", "hand"] (spIni K C "hand") := by
  refine FunQ.go F scIniBad (fun vs H Q E h => ?_) (fun cdv A outer s H vs Q E_ hr h => ?_)
  · exact spIni_len h
  · obtain ⟨a, y, rfl, ha, q⟩ := h
    refine ⟨_, pss_one (ps_ost (pv 0) (pv 1)), ?_⟩
    exact ⟨y, rfl, .ref a, rfl, a, C, rfl, E.oe, E.no, .inl ⟨ha, fun dx n1 n2 => q dx n1 n2⟩⟩
theorem scIniNoHand : FnScope ["self", "thing"] ["self", "thing"] (defScope sIniNoHand) := ⟨rfl, rfl, rfl, by decide +kernel, rfl, by decide +kernel, by decide +kernel⟩
theorem ok_iniNoHand {C fI : Addr} (E : ErL K C fI "thing") (F : FunD K "__init__" "NoHand.__init__" (defArgs sIniNoHand) (defBody sIniNoHand) (defScope sIniNoHand) [] [] f fd) : FnOk P w K mg base CX0 1 f fd ["self", "thing"] (spIni K C "thing") := by
  refine FunQ.go F scIniNoHand (fun vs H Q E h => ?_) (fun cdv A outer s H vs Q E_ hr h => ?_)
  · exact spIni_len h
  · obtain ⟨a, y, rfl, ha, q⟩ := h
    refine ⟨_, pss_one (ps_ostL (pv 0) (pv 1)), ?_⟩
    exact ⟨y, rfl, .ref a, rfl, a, C, rfl, E.oe, E.no, ha, fun dx n1 n2 => q dx n1 n2⟩
theorem scIniNoBit : FnScope ["self", "thing"] ["self", "thing"] (defScope sIniNoBit) := ⟨rfl, rfl, rfl, by decide +kernel, rfl, by decide +kernel, by decide +kernel⟩
theorem ok_iniNoBit {C fI : Addr} (E : ErL K C fI "thing") (F : FunD K "__init__" "NoBit.__init__" (defArgs sIniNoBit) (defBody sIniNoBit) (defScope sIniNoBit) [] [] f fd) : FnOk P w K mg base CX0 1 f fd ["self", "thing"] (spIni K C "thing") := by
  refine FunQ.go F scIniNoBit (fun vs H Q E h => ?_) (fun cdv A outer s H vs Q E_ hr h => ?_)
  · exact spIni_len h
  · obtain ⟨a, y, rfl, ha, q⟩ := h
    refine ⟨_, pss_one (ps_ostL (pv 0) (pv 1)), ?_⟩
    exact ⟨y, rfl, .ref a, rfl, a, C, rfl, E.oe, E.no, ha, fun dx n1 n2 => q dx n1 n2⟩
theorem scIniNoLetter : FnScope ["self", "thing"] ["self", "thing"] (defScope sIniNoLetter) := ⟨rfl, rfl, rfl, by decide +kernel, rfl, by decide +kernel, by decide +kernel⟩
theorem ok_iniNoLetter {C fI : Addr} (E : ErL K C fI "thing") (F : FunD K "__init__" "NoLetter.__init__" (defArgs sIniNoLetter) (defBody sIniNoLetter) (defScope sIniNoLetter) [] [] f fd) : FnOk P w K mg base CX0 1 f fd ["self", "thing"] (spIni K C "thing") := by
  refine FunQ.go F scIniNoLetter (fun vs H Q E h => ?_) (fun cdv A outer s H vs Q E_ hr h => ?_)
  · exact spIni_len h
  · obtain ⟨a, y, rfl, ha, q⟩ := h
    refine ⟨_, pss_one (ps_ostL (pv 0) (pv 1)), ?_⟩
    exact ⟨y, rfl, .ref a, rfl, a, C, rfl, E.oe, E.no, ha, fun dx n1 n2 => q dx n1 n2⟩
theorem scIniNoTree : FnScope ["self", "thing"] ["self", "thing"] (defScope sIniNoTree) := ⟨rfl, rfl, rfl, by decide +kernel, rfl, by decide +kernel, by decide +kernel⟩
theorem ok_iniNoTree {C fI : Addr} (E : ErL K C fI "thing") (F : FunD K "__init__" "NoTree.__init__" (defArgs sIniNoTree) (defBody sIniNoTree) (defScope sIniNoTree) [] [] f fd) : FnOk P w K mg base CX0 1 f fd ["self", "thing"] (spIni K C "thing") := by
  refine FunQ.go F scIniNoTree (fun vs H Q E h => ?_) (fun cdv A outer s H vs Q E_ hr h => ?_)
  · exact spIni_len h
  · obtain ⟨a, y, rfl, ha, q⟩ := h
    refine ⟨_, pss_one (ps_ostL (pv 0) (pv 1)), ?_⟩
    exact ⟨y, rfl, .ref a, rfl, a, C, rfl, E.oe, E.no, ha, fun dx n1 n2 => q dx n1 n2⟩
/-! ### _law_odd -/
def oddB  : M (Ctl Ad Unit Unit) :=
  (bindW (bindW (b2W (mapW (fun a : Unit => (⟨ToA.ad a⟩ : Ad)) (retW ())) (b2W (mapW (fun a : Bool => (⟨ToA.ad a⟩ : Ad)) (retW true)) (b2W (mapW (fun a : Bool => (⟨ToA.ad a⟩ : Ad)) (retW false)) (b2W (mapW (fun a : Str => (⟨ToA.ad a⟩ : Ad)) (retW ("" : Str))) (b2W (mapW (fun a : Str => (⟨ToA.ad a⟩ : Ad)) (retW ("1" : Str))) (b2W (mapW (fun a : Str => (⟨ToA.ad a⟩ : Ad)) (retW ("x" : Str))) (b2W (mapW (fun a : (List Ad) => (⟨ToA.ad a⟩ : Ad)) (bindW (retW ([] : (List Ad))) fun xs => reqW (xs.length ≤ sizeLine) (retW xs))) (b2W (mapW (fun xs : (Lst Ad) => (⟨.list (xs.l.map ToA.ad)⟩ : Ad)) (bindW (retW ([] : List Ad)) fun xs => reqW (xs.length ≤ sizeLine) (retW (⟨xs⟩ : (Lst Ad))))) (b2W (retW (⟨.dict []⟩ : Ad)) (b2W (mapW (fun a : (List Nat) => (⟨ToA.ad a⟩ : Ad)) (bindW (b2W (retW (0 : Nat)) (retW ([] : List Nat)) fun a as => retW (a :: as)) fun xs => reqW (xs.length ≤ sizeLine) (retW xs))) (b2W (mapW (fun xs : (Lst Nat) => (⟨.list (xs.l.map ToA.ad)⟩ : Ad)) (bindW (b2W (retW (0 : Nat)) (retW ([] : List Nat)) fun a as => retW (a :: as)) fun xs => reqW (xs.length ≤ sizeLine) (retW (⟨xs⟩ : Lst Nat)))) (b2W (mapW (fun a : Int => (⟨ToA.ad a⟩ : Ad)) (mapW (fun z : Int => -z) (retW (1 : Int)))) (b2W (mapW (fun a : Nat => (⟨ToA.ad a⟩ : Ad)) (retW (1000000000 : Nat))) (b2W (mapW (fun a : Nat => (⟨ToA.ad a⟩ : Ad)) (retW (1000000000000000000000000000000 : Nat))) (b2W (mapW (fun a : (Nat × Nat) => (⟨ToA.ad a⟩ : Ad)) (b2W (retW (1 : Nat)) (retW (2 : Nat)) fun a b => retW (a, b))) (b2W (mapW (fun a : Str => (⟨ToA.ad a⟩ : Ad)) (retW ("tell" : Str))) (retW ([] : List Ad)) fun a as => retW (a :: as)) fun a as => retW (a :: as)) fun a as => retW (a :: as)) fun a as => retW (a :: as)) fun a as => retW (a :: as)) fun a as => retW (a :: as)) fun a as => retW (a :: as)) fun a as => retW (a :: as)) fun a as => retW (a :: as)) fun a as => retW (a :: as)) fun a as => retW (a :: as)) fun a as => retW (a :: as)) fun a as => retW (a :: as)) fun a as => retW (a :: as)) fun a as => retW (a :: as)) fun a as => retW (a :: as)) fun xs => reqW (xs.length ≤ sizeLine) (retW (⟨xs⟩ : Lst Ad))) fun (some_1 : (Lst Ad)) =>
  (bindW (c1W (retW (some_1 : (Lst Ad))) fun A_1 => ofW A_1) fun (thing_2 : Ad) =>
  (bindW (bindW (b2W (bindW (b2W (retW (0 : Nat)) (b2W (retW (0 : Nat)) (b2W (retW (1 : Nat)) (b2W (retW (20 : Nat)) (retW ([] : List Nat)) fun a as => retW (a :: as)) fun a as => retW (a :: as)) fun a as => retW (a :: as)) fun a as => retW (a :: as)) fun xs => reqW (xs.length ≤ sizeLine) (retW (⟨xs⟩ : Lst Nat))) (c1W (retW (4 : Nat)) fun A_1 => takeB A_1) fun (xs : (Lst Nat)) (i : Nat) n P => ∃ a, xs.l[i]? = some a ∧ P a n) fun k => reqW (k < 4611686018427387904) (retW (List.range k))) fun X_ => seqW (forW (fun (turn_4 : Nat) (s_3 : Ad) =>
  (bindW (b2W (bindW (b2W (mapW (fun a : (List Ad) => (⟨ToA.ad a⟩ : Ad)) (bindW (b2W (retW (s_3 : Ad)) (retW ([] : List Ad)) fun a as => retW (a :: as)) fun xs => reqW (xs.length ≤ sizeLine) (retW xs))) (b2W (mapW (fun xs : (Lst Ad) => (⟨.list (xs.l.map ToA.ad)⟩ : Ad)) (bindW (b2W (retW (s_3 : Ad)) (retW ([] : List Ad)) fun a as => retW (a :: as)) fun xs => reqW (xs.length ≤ sizeLine) (retW (⟨xs⟩ : Lst Ad)))) (b2W (mapW (fun s : A1 => (⟨.dict [(.str "a", s.a_.d)]⟩ : Ad)) (bindW (b2W (retW (s_3 : Ad)) (retW ()) fun a_ b_ => retW (a_, b_)) fun x => retW ((fun x_ : (Ad × Unit) => (⟨x_.1⟩ : A1)) x))) (retW ([] : List Ad)) fun a as => retW (a :: as)) fun a as => retW (a :: as)) fun a as => retW (a :: as)) fun xs => reqW (xs.length ≤ sizeLine) (retW (⟨xs⟩ : Lst Ad))) (c1W (retW (3 : Nat)) fun A_1 => takeB A_1) fun (xs : (Lst Ad)) (i : Nat) n P => ∃ a, xs.l[i]? = some a ∧ P a n) fun (thing_5 : Ad) =>
  (retW (.nxt (thing_5 : Ad))))) X_ (thing_2 : Ad)) fun (s_3 : Ad) =>
  (bindW (retW (s_3 : Ad)) fun r => retW (.ret r)))))
theorem oddW_ex : ∃ g : M Ad, g  = outW (oddB ) := ⟨outW (oddB ), rfl⟩
/-- sealed -/
def oddW : M Ad := Classical.choose oddW_ex
theorem oddW_eq  : oddW  = outW (oddB ) := Classical.choose_spec oddW_ex 
theorem oddW_fn : oddW = outW (oddB ) := oddW_eq 
theorem scOdd : FnScope ["_law_pot_here", "_law_some", "_law_thing", "_law_turn"] ["_law_pot_here"] (defScope sOdd) := ⟨rfl, rfl, rfl, by decide +kernel, rfl, by decide +kernel, by decide +kernel⟩
theorem ok_odd {f_of f_take : Addr} {d_of d_take : FuncData} (F : Fun K "_law_odd" "_law_odd" sOdd f fd) (b : Bls2 mg) (c_of : ∀ {α : Type} [Enc α] [Pu α], CalF P w K mg base 2 "_law_of" f_of d_of ["_law_pot_here", "_law_some"] (spP1 K T (ofW (α := α)))) (c_take : CalF P w K mg base 1 "_law_take" f_take d_take ["_law_pot_here", "_law_upto"] (spP1 K T takeB)) : FnOk P w K mg base CX0 3 f fd ["_law_pot_here"] (spP0 K T oddW) := by
  refine F.ok scOdd (fun vs H Q E h => ?_) (fun cdv A outer s H vs Q E hr h => ?_)
  · exact spP0_len h
  · refine ⟨_, (pss_cons (ps_set (i := 1) scOdd.nd rfl (.inl rfl) (pe_lst (pa_cons pe_non (pa_cons pe_bl (pa_cons pe_bl (pa_cons pe_str (pa_cons pe_str (pa_cons pe_str (pa_cons (pe_tup pa_nil) (pa_cons (pe_fz (pe_lst pa_nil)) (pa_cons (pe_fzD pe_dnewK) (pa_cons (pe_tup (pa_cons pe_int pa_nil)) (pa_cons (pe_fz (pe_lst (pa_cons pe_int pa_nil))) (pa_cons (pe_un un_neg pe_int) (pa_cons (pe_op op_powW pe_int pe_int) (pa_cons (pe_op op_powW pe_int pe_int) (pa_cons (pe_tup (pa_cons pe_int (pa_cons pe_int pa_nil))) (pa_cons pe_str pa_nil))))))))))))))))))
      (pss_cons (ps_set (i := 2) scOdd.nd rfl (.inl rfl) (pe_call (c_of (α := Ad)).G (hr.mono (by decide)) (by rfl) (c_of (α := Ad)).g (c_of (α := Ad)).kp (c_of (α := Ad)).b .nil pass0 (pa_cons (pv 0) (pa_cons (pv 1) pa_nil))))
      (pss_cons (ps_for PassesOwn.never rfl (pi_range1 (by rfl) b.range (pa_cons (pe_ix ix_list (pe_lst (pa_cons pe_int (pa_cons pe_int (pa_cons pe_int (pa_cons pe_int pa_nil))))) (pe_call c_take.G (hr.mono (by decide)) (by rfl) c_take.g c_take.kp c_take.b .nil pass0 (pa_cons (pv 0) (pa_cons pe_int pa_nil))) (fun _ _ => rfl)) pa_nil)) (pg_name (i := 3) scOdd.nd rfl (Or.inl rfl))
      (pss_cons (ps_set (i := 2) scOdd.nd rfl (.inl rfl) (pe_ix ix_list (pe_lst (pa_cons (pe_tup (pa_cons (pv 2) pa_nil)) (pa_cons (pe_fz (pe_lst (pa_cons (pv 2) pa_nil))) (pa_cons (pe_fzD (pe_disp (pps_cons pe_str (pv 2) pps_nil) rfl rfl (by intro h; cases h) (by decide))) pa_nil)))) (pe_call c_take.G (hr.mono (by decide)) (by rfl) c_take.g c_take.kp c_take.b .nil pass0 (pa_cons (pv 0) (pa_cons pe_int pa_nil))) (fun _ _ => rfl)))
      pss_nil))
      (pss_cons (ps_ret (pv 2))
      pss_nil)))), p0_run (N := ["_law_pot_here", "_law_some", "_law_thing", "_law_turn"])  (mB := oddB) (ρ := [.pot, .any, .any, .any]) (ρn := fun _ => []) (ρb := fun _ => []) (C := fun _ => True) (rfl) (fun _ => trivial) (
  (rb_asg (ρ2 := fun (some_1 : (Lst Ad)) => [.pot, .own (enc (some_1 : (Lst Ad))), .any, .any]) (re_lst (ras_cons (re_ad re_unit) (ras_cons (re_ad (re_bool true)) (ras_cons (re_ad (re_bool false)) (ras_cons (re_ad (re_str "")) (ras_cons (re_ad (re_str "1")) (ras_cons (re_ad (re_str "x")) (ras_cons (re_ad (re_tupL (α := Ad) ras_nil)) (ras_cons (re_fzL (re_lst (α := Ad) ras_nil)) (ras_cons re_fzD0 (ras_cons (re_ad (re_tupL (ras_cons (re_nat 0) ras_nil))) (ras_cons (re_fzL (re_lst (ras_cons (re_nat 0) ras_nil))) (ras_cons (re_ad (re_neg (re_int 1))) (ras_cons (re_ad (re_pow (a := 10) (b := 9) (c := 1000000000) (by decide +kernel) (by decide +kernel))) (ras_cons (re_ad (re_pow (a := 10) (b := 30) (c := 1000000000000000000000000000000) (by decide +kernel) (by decide +kernel))) (ras_cons (re_ad (re_pair (re_nat 1) (re_nat 2))) (ras_cons (re_ad (re_str "tell")) ras_nil))))))))))))))))) (fun (some_1 : (Lst Ad)) => rg_name (i := 1) (show 1 < 4 by decide) rfl) (fun (some_1 : (Lst Ad)) =>
  (rb_freeze (i := 1) (ρ2 := [.pot, .bor (enc (some_1 : (Lst Ad))), .any, .any]) rfl rfl (rb_asg (ρ2 := fun (thing_2 : Ad) => [.pot, .bor (enc (some_1 : (Lst Ad))), .own (enc (thing_2 : Ad)), .any]) (re_callp1 (ip := 0) rfl (re_bor (i := 1) (a := (some_1 : (Lst Ad))) rfl)) (fun (thing_2 : Ad) => rg_name (i := 2) (show 2 < 4 by decide) rfl) (fun (thing_2 : Ad) =>
  (rb_for (s0 := (thing_2 : Ad)) (ρl := fun (s_3 : Ad) => [.pot, .bor (enc (some_1 : (Lst Ad))), .own (enc (s_3 : Ad)), .any]) (ρx := fun (turn_4 : Nat) (s_3 : Ad) => [.pot, .bor (enc (some_1 : (Lst Ad))), .own (enc (s_3 : Ad)), .own (enc (turn_4 : Nat))]) (ri_range (re_op ow_ixLN (re_lst (ras_cons (re_nat 0) (ras_cons (re_nat 0) (ras_cons (re_nat 1) (ras_cons (re_nat 20) ras_nil))))) (re_callp1 (ip := 0) rfl (re_nat 4)))) ⟨.eq _, ⟨.eq _, ⟨.eq _, ⟨.any _, trivial⟩⟩⟩⟩ (fun (turn_4 : Nat) (s_3 : Ad) => (rg_name (i := 3) (ρ' := [.pot, .bor (enc (some_1 : (Lst Ad))), .own (enc (s_3 : Ad)), .own (enc (turn_4 : Nat))]) (show 3 < 4 by decide) rfl)) (fun (turn_4 : Nat) (s_3 : Ad) =>
  (rb_asg (ρ2 := fun (thing_5 : Ad) => [.pot, .bor (enc (some_1 : (Lst Ad))), .own (enc (thing_5 : Ad)), .own (enc (turn_4 : Nat))]) (re_op ow_ixLN (re_lst (ras_cons (re_ad (re_tupL (ras_cons (re_v (i := 2) (a := (s_3 : Ad)) rfl) ras_nil))) (ras_cons (re_fzL (re_lst (ras_cons (re_v (i := 2) (a := (s_3 : Ad)) rfl) ras_nil))) (ras_cons (re_fzA1 (re_dispR (ts := [("a", (tVar 2))]) (fun x_ : (Ad × Unit) => (⟨x_.1⟩ : A1)) (fun _ => rfl) rfl (by decide +kernel) (by decide) (rds_cons (re_v (i := 2) (a := (s_3 : Ad)) rfl) rds_nil (fun _ h => absurd h List.not_mem_nil)))) ras_nil)))) (re_callp1 (ip := 0) rfl (re_nat 3))) (fun (thing_5 : Ad) => rg_name (i := 2) (show 2 < 4 by decide) rfl) (fun (thing_5 : Ad) =>
  (rb_end (s := (thing_5 : Ad)) ⟨.eq _, ⟨.eq _, ⟨.eq _, ⟨.any _, trivial⟩⟩⟩⟩)))) (fun (s_3 : Ad) =>
  (rb_ret (re_v (i := 2) (a := (s_3 : Ad)) rfl)))))))))) (by rw [oddW_fn] at h; exact h)⟩
/-! ### _law_under -/
def undB (e : Er) : M (Ctl (Lst Nat) Unit Unit) :=
  (bindW (bindW (b2W (bindW (retW (e : Er)) fun e => reqW (e.cn ∈ errCs) (retW (errSup e.cn "NoInverse"))) (b2W (bindW (retW (e : Er)) fun e => reqW (e.cn ∈ errCs) (retW (errSup e.cn "TooFew"))) (b2W (bindW (retW (e : Er)) fun e => reqW (e.cn ∈ errCs) (retW (errSup e.cn "BadNumbers"))) (b2W (bindW (retW (e : Er)) fun e => reqW (e.cn ∈ errCs) (retW (errSup e.cn "BadHouse"))) (retW ([] : List Bool)) fun a as => retW (a :: as)) fun a as => retW (a :: as)) fun a as => retW (a :: as)) fun a as => retW (a :: as)) fun xs => reqW (xs.length ≤ sizeLine) (retW (⟨xs⟩ : Lst Bool))) fun (some_1 : (Lst Bool)) =>
  (bindW (b2W (retW (some_1 : (Lst Bool))) (bindW (b2W (bindW (retW (e : Er)) fun e => reqW (e.cn ∈ errCs) (retW (errSup e.cn "BadRows"))) (b2W (bindW (retW (e : Er)) fun e => reqW (e.cn ∈ errCs) (retW (errSup e.cn "NoNumber"))) (b2W (bindW (retW (e : Er)) fun e => reqW (e.cn ∈ errCs) (retW (errSup e.cn "NoText"))) (b2W (bindW (retW (e : Er)) fun e => reqW (e.cn ∈ errCs) (retW (errSup e.cn "NoLine"))) (retW ([] : List Bool)) fun a as => retW (a :: as)) fun a as => retW (a :: as)) fun a as => retW (a :: as)) fun a as => retW (a :: as)) fun xs => reqW (xs.length ≤ sizeLine) (retW (⟨xs⟩ : Lst Bool))) (fun xs ys : Lst Bool => reqW (xs.l.length + ys.l.length ≤ sizeLine) (retW (⟨xs.l ++ ys.l⟩ : Lst Bool)))) fun (some_2 : (Lst Bool)) =>
  (bindW (b2W (retW (some_2 : (Lst Bool))) (bindW (b2W (bindW (retW (e : Er)) fun e => reqW (e.cn ∈ errCs) (retW (errSup e.cn "Early"))) (b2W (bindW (retW (e : Er)) fun e => reqW (e.cn ∈ errCs) (retW (errSup e.cn "Busy"))) (b2W (bindW (retW (e : Er)) fun e => reqW (e.cn ∈ errCs) (retW (errSup e.cn "Bad"))) (b2W (bindW (retW (e : Er)) fun e => reqW (e.cn ∈ errCs) (retW (errSup e.cn "NoHand"))) (retW ([] : List Bool)) fun a as => retW (a :: as)) fun a as => retW (a :: as)) fun a as => retW (a :: as)) fun a as => retW (a :: as)) fun xs => reqW (xs.length ≤ sizeLine) (retW (⟨xs⟩ : Lst Bool))) (fun xs ys : Lst Bool => reqW (xs.l.length + ys.l.length ≤ sizeLine) (retW (⟨xs.l ++ ys.l⟩ : Lst Bool)))) fun (some_3 : (Lst Bool)) =>
  (bindW (b2W (retW (some_3 : (Lst Bool))) (bindW (b2W (bindW (retW (e : Er)) fun e => reqW (e.cn ∈ errCs) (retW (errSup e.cn "NoBit"))) (b2W (bindW (retW (e : Er)) fun e => reqW (e.cn ∈ errCs) (retW (errSup e.cn "NoLetter"))) (b2W (bindW (retW (e : Er)) fun e => reqW (e.cn ∈ errCs) (retW (errSup e.cn "NoTree"))) (b2W (bindW (retW (e : Er)) fun e => reqW (e.cn ∈ errCs) (retW (errSup e.cn "Ended"))) (retW ([] : List Bool)) fun a as => retW (a :: as)) fun a as => retW (a :: as)) fun a as => retW (a :: as)) fun a as => retW (a :: as)) fun xs => reqW (xs.length ≤ sizeLine) (retW (⟨xs⟩ : Lst Bool))) (fun xs ys : Lst Bool => reqW (xs.l.length + ys.l.length ≤ sizeLine) (retW (⟨xs.l ++ ys.l⟩ : Lst Bool)))) fun (some_4 : (Lst Bool)) =>
  (bindW (bindW (retW (e : Er)) fun e => reqW (e.cn ∈ errCs) (retW (errSup e.cn "Idle"))) fun (y_5 : Bool) => reqW ((some_4 : (Lst Bool)).l.length < sizeLine)
  (bindW (bindW (retW (enW ((⟨(some_4 : (Lst Bool)).l ++ [y_5]⟩ : (Lst Bool)) : (Lst Bool)).l)) fun X_ => reqW (X_.length ≤ sizeLine) (lcW (fun (x_6 : (Nat × Bool)) => (retW (x_6.2 : Bool))) (fun (x_6 : (Nat × Bool)) => (retW (x_6.1 : Nat))) X_ [])) fun r => retW (.ret r)))))))
theorem undW_ex : ∃ g : Er → M (Lst Nat), ∀ e, g e = outW (undB e) := ⟨fun e => outW (undB e), fun _ => rfl⟩
/-- sealed -/
def undW : Er → M (Lst Nat) := Classical.choose undW_ex
theorem undW_eq (e : Er) : undW e = outW (undB e) := Classical.choose_spec undW_ex e
theorem undW_fn : undW = fun e => outW (undB e) := funext fun e => undW_eq e
theorem scUnd : FnScope ["_law_e", "_law_some", "_law_at", "_law_good"] ["_law_e"] (defScope sUnd) := ⟨rfl, rfl, rfl, by decide +kernel, rfl, by decide +kernel, by decide +kernel⟩
theorem ok_und (F : Fun K "_law_under" "_law_under" sUnd f fd) (b : Bls2 mg) (k_ERR : ErrT K mg errCs errOwn errBlt errFl errSup) : FnOk P w K mg base CX0 1 f fd ["_law_e"] (spW1 K T undW) := by
  refine F.ok scUnd (fun vs H Q E h => ?_) (fun cdv A outer s H vs Q E hr h => ?_)
  · exact spW1_len h
  · refine ⟨_, (pss_cons (ps_set (i := 1) scUnd.nd rfl (.inl rfl) (pe_lst (pa_cons (pe_callB call_isF (by rfl) b.isinstance (by decide +kernel) (pa_cons (pv 0) (pa_cons (pe_glob (v := .ref (He.ga K "NoInverse")) (by rfl) (k_ERR.gl "NoInverse" (by decide)) rfl) pa_nil))) (pa_cons (pe_callB call_isF (by rfl) b.isinstance (by decide +kernel) (pa_cons (pv 0) (pa_cons (pe_glob (v := .ref (He.ga K "TooFew")) (by rfl) (k_ERR.gl "TooFew" (by decide)) rfl) pa_nil))) (pa_cons (pe_callB call_isF (by rfl) b.isinstance (by decide +kernel) (pa_cons (pv 0) (pa_cons (pe_glob (v := .ref (He.ga K "BadNumbers")) (by rfl) (k_ERR.gl "BadNumbers" (by decide)) rfl) pa_nil))) (pa_cons (pe_callB call_isF (by rfl) b.isinstance (by decide +kernel) (pa_cons (pv 0) (pa_cons (pe_glob (v := .ref (He.ga K "BadHouse")) (by rfl) (k_ERR.gl "BadHouse" (by decide)) rfl) pa_nil))) pa_nil))))))
      (pss_cons (ps_set (i := 1) scUnd.nd rfl (.inl rfl) (pe_op op_cat (pv 1) (pe_lst (pa_cons (pe_callB call_isF (by rfl) b.isinstance (by decide +kernel) (pa_cons (pv 0) (pa_cons (pe_glob (v := .ref (He.ga K "BadRows")) (by rfl) (k_ERR.gl "BadRows" (by decide)) rfl) pa_nil))) (pa_cons (pe_callB call_isF (by rfl) b.isinstance (by decide +kernel) (pa_cons (pv 0) (pa_cons (pe_glob (v := .ref (He.ga K "NoNumber")) (by rfl) (k_ERR.gl "NoNumber" (by decide)) rfl) pa_nil))) (pa_cons (pe_callB call_isF (by rfl) b.isinstance (by decide +kernel) (pa_cons (pv 0) (pa_cons (pe_glob (v := .ref (He.ga K "NoText")) (by rfl) (k_ERR.gl "NoText" (by decide)) rfl) pa_nil))) (pa_cons (pe_callB call_isF (by rfl) b.isinstance (by decide +kernel) (pa_cons (pv 0) (pa_cons (pe_glob (v := .ref (He.ga K "NoLine")) (by rfl) (k_ERR.gl "NoLine" (by decide)) rfl) pa_nil))) pa_nil)))))))
      (pss_cons (ps_set (i := 1) scUnd.nd rfl (.inl rfl) (pe_op op_cat (pv 1) (pe_lst (pa_cons (pe_callB call_isF (by rfl) b.isinstance (by decide +kernel) (pa_cons (pv 0) (pa_cons (pe_glob (v := .ref (He.ga K "Early")) (by rfl) (k_ERR.gl "Early" (by decide)) rfl) pa_nil))) (pa_cons (pe_callB call_isF (by rfl) b.isinstance (by decide +kernel) (pa_cons (pv 0) (pa_cons (pe_glob (v := .ref (He.ga K "Busy")) (by rfl) (k_ERR.gl "Busy" (by decide)) rfl) pa_nil))) (pa_cons (pe_callB call_isF (by rfl) b.isinstance (by decide +kernel) (pa_cons (pv 0) (pa_cons (pe_glob (v := .ref (He.ga K "Bad")) (by rfl) (k_ERR.gl "Bad" (by decide)) rfl) pa_nil))) (pa_cons (pe_callB call_isF (by rfl) b.isinstance (by decide +kernel) (pa_cons (pv 0) (pa_cons (pe_glob (v := .ref (He.ga K "NoHand")) (by rfl) (k_ERR.gl "NoHand" (by decide)) rfl) pa_nil))) pa_nil)))))))
      (pss_cons (ps_set (i := 1) scUnd.nd rfl (.inl rfl) (pe_op op_cat (pv 1) (pe_lst (pa_cons (pe_callB call_isF (by rfl) b.isinstance (by decide +kernel) (pa_cons (pv 0) (pa_cons (pe_glob (v := .ref (He.ga K "NoBit")) (by rfl) (k_ERR.gl "NoBit" (by decide)) rfl) pa_nil))) (pa_cons (pe_callB call_isF (by rfl) b.isinstance (by decide +kernel) (pa_cons (pv 0) (pa_cons (pe_glob (v := .ref (He.ga K "NoLetter")) (by rfl) (k_ERR.gl "NoLetter" (by decide)) rfl) pa_nil))) (pa_cons (pe_callB call_isF (by rfl) b.isinstance (by decide +kernel) (pa_cons (pv 0) (pa_cons (pe_glob (v := .ref (He.ga K "NoTree")) (by rfl) (k_ERR.gl "NoTree" (by decide)) rfl) pa_nil))) (pa_cons (pe_callB call_isF (by rfl) b.isinstance (by decide +kernel) (pa_cons (pv 0) (pa_cons (pe_glob (v := .ref (He.ga K "Ended")) (by rfl) (k_ERR.gl "Ended" (by decide)) rfl) pa_nil))) pa_nil)))))))
      (pss_cons (ps_expr (pe_bm PySem.F.plainAttrs_list PySem.F.slot_list_append PySem.F.type_list_append mt_append (pv 1) (pa_cons (pe_callB call_isF (by rfl) b.isinstance (by decide +kernel) (pa_cons (pv 0) (pa_cons (pe_glob (v := .ref (He.ga K "Idle")) (by rfl) (k_ERR.gl "Idle" (by decide)) rfl) pa_nil))) pa_nil)))
      (pss_cons (ps_ret (pe_lc (own := [("_law_at", 2), ("_law_good", 3)]) (g := (gTup K 2 (gCons (gName 2) (gCons (gName 3) gNil)))) (tt := (tB (tVar 3))) (te := (tVar 2)) (by rfl) scUnd.nd (pi_enum (by rfl) b.enumerate (pa_cons (pv 1) pa_nil)) (blkOk_by (own := [("_law_at", 2), ("_law_good", 3)]) (N := ["_law_e", "_law_some", "_law_at", "_law_good"]) (sc := defScope sUnd) (by decide +kernel)) (fun _ _ _ _ _ => (pg_tup (by rfl) (pgs_cons (pg_name (i := 2) scUnd.nd rfl (Or.inl rfl)) (pgs_cons (pg_name (i := 3) scUnd.nd rfl (Or.inl rfl)) pgs_nil)))) (fun _ _ _ _ _ => (pts_one (pt_val (pv 3)))) (fun _ _ _ _ _ => (pv 2))))
      pss_nil)))))), w1_run (N := ["_law_e", "_law_some", "_law_at", "_law_good"]) psl_own (mB := undB) (ρ := fun (e : Er) => [.own (enc (e : Er)), .any, .any, .any]) (ρn := fun _ => []) (ρb := fun _ => []) (C := fun _ => True) (fun _ => rfl) trivial (fun (e : Er) => 
  (rb_asg (ρ2 := fun (some_1 : (Lst Bool)) => [.own (enc (e : Er)), .own (enc (some_1 : (Lst Bool))), .any, .any]) (re_lst (ras_cons (re_isE (cs := errCs) (sup := fun x_ => errSup x_ "NoInverse") (.own (He.ga K "NoInverse")) (k_ERR.kOwn (C := "NoInverse") (by decide)) (re_v (i := 0) (a := (e : Er)) rfl)) (ras_cons (re_isE (cs := errCs) (sup := fun x_ => errSup x_ "TooFew") (.own (He.ga K "TooFew")) (k_ERR.kOwn (C := "TooFew") (by decide)) (re_v (i := 0) (a := (e : Er)) rfl)) (ras_cons (re_isE (cs := errCs) (sup := fun x_ => errSup x_ "BadNumbers") (.own (He.ga K "BadNumbers")) (k_ERR.kOwn (C := "BadNumbers") (by decide)) (re_v (i := 0) (a := (e : Er)) rfl)) (ras_cons (re_isE (cs := errCs) (sup := fun x_ => errSup x_ "BadHouse") (.own (He.ga K "BadHouse")) (k_ERR.kOwn (C := "BadHouse") (by decide)) (re_v (i := 0) (a := (e : Er)) rfl)) ras_nil))))) (fun (some_1 : (Lst Bool)) => rg_name (i := 1) (show 1 < 4 by decide) rfl) (fun (some_1 : (Lst Bool)) =>
  (rb_asg (ρ2 := fun (some_2 : (Lst Bool)) => [.own (enc (e : Er)), .own (enc (some_2 : (Lst Bool))), .any, .any]) (re_op ow_catL (re_own (i := 1) (a := (some_1 : (Lst Bool))) rfl) (re_lst (ras_cons (re_isE (cs := errCs) (sup := fun x_ => errSup x_ "BadRows") (.own (He.ga K "BadRows")) (k_ERR.kOwn (C := "BadRows") (by decide)) (re_v (i := 0) (a := (e : Er)) rfl)) (ras_cons (re_isE (cs := errCs) (sup := fun x_ => errSup x_ "NoNumber") (.own (He.ga K "NoNumber")) (k_ERR.kOwn (C := "NoNumber") (by decide)) (re_v (i := 0) (a := (e : Er)) rfl)) (ras_cons (re_isE (cs := errCs) (sup := fun x_ => errSup x_ "NoText") (.own (He.ga K "NoText")) (k_ERR.kOwn (C := "NoText") (by decide)) (re_v (i := 0) (a := (e : Er)) rfl)) (ras_cons (re_isE (cs := errCs) (sup := fun x_ => errSup x_ "NoLine") (.own (He.ga K "NoLine")) (k_ERR.kOwn (C := "NoLine") (by decide)) (re_v (i := 0) (a := (e : Er)) rfl)) ras_nil)))))) (fun (some_2 : (Lst Bool)) => rg_name (i := 1) (show 1 < 4 by decide) rfl) (fun (some_2 : (Lst Bool)) =>
  (rb_asg (ρ2 := fun (some_3 : (Lst Bool)) => [.own (enc (e : Er)), .own (enc (some_3 : (Lst Bool))), .any, .any]) (re_op ow_catL (re_own (i := 1) (a := (some_2 : (Lst Bool))) rfl) (re_lst (ras_cons (re_isE (cs := errCs) (sup := fun x_ => errSup x_ "Early") (.own (He.ga K "Early")) (k_ERR.kOwn (C := "Early") (by decide)) (re_v (i := 0) (a := (e : Er)) rfl)) (ras_cons (re_isE (cs := errCs) (sup := fun x_ => errSup x_ "Busy") (.own (He.ga K "Busy")) (k_ERR.kOwn (C := "Busy") (by decide)) (re_v (i := 0) (a := (e : Er)) rfl)) (ras_cons (re_isE (cs := errCs) (sup := fun x_ => errSup x_ "Bad") (.own (He.ga K "Bad")) (k_ERR.kOwn (C := "Bad") (by decide)) (re_v (i := 0) (a := (e : Er)) rfl)) (ras_cons (re_isE (cs := errCs) (sup := fun x_ => errSup x_ "NoHand") (.own (He.ga K "NoHand")) (k_ERR.kOwn (C := "NoHand") (by decide)) (re_v (i := 0) (a := (e : Er)) rfl)) ras_nil)))))) (fun (some_3 : (Lst Bool)) => rg_name (i := 1) (show 1 < 4 by decide) rfl) (fun (some_3 : (Lst Bool)) =>
  (rb_asg (ρ2 := fun (some_4 : (Lst Bool)) => [.own (enc (e : Er)), .own (enc (some_4 : (Lst Bool))), .any, .any]) (re_op ow_catL (re_own (i := 1) (a := (some_3 : (Lst Bool))) rfl) (re_lst (ras_cons (re_isE (cs := errCs) (sup := fun x_ => errSup x_ "NoBit") (.own (He.ga K "NoBit")) (k_ERR.kOwn (C := "NoBit") (by decide)) (re_v (i := 0) (a := (e : Er)) rfl)) (ras_cons (re_isE (cs := errCs) (sup := fun x_ => errSup x_ "NoLetter") (.own (He.ga K "NoLetter")) (k_ERR.kOwn (C := "NoLetter") (by decide)) (re_v (i := 0) (a := (e : Er)) rfl)) (ras_cons (re_isE (cs := errCs) (sup := fun x_ => errSup x_ "NoTree") (.own (He.ga K "NoTree")) (k_ERR.kOwn (C := "NoTree") (by decide)) (re_v (i := 0) (a := (e : Er)) rfl)) (ras_cons (re_isE (cs := errCs) (sup := fun x_ => errSup x_ "Ended") (.own (He.ga K "Ended")) (k_ERR.kOwn (C := "Ended") (by decide)) (re_v (i := 0) (a := (e : Er)) rfl)) ras_nil)))))) (fun (some_4 : (Lst Bool)) => rg_name (i := 1) (show 1 < 4 by decide) rfl) (fun (some_4 : (Lst Bool)) =>
  (rb_append (i := 1) (xs := (some_4 : (Lst Bool))) (ρ2 := fun (y_5 : Bool) => [.own (enc (e : Er)), .own (enc ((⟨(some_4 : (Lst Bool)).l ++ [y_5]⟩ : (Lst Bool)) : (Lst Bool))), .any, .any]) rfl (re_isE (cs := errCs) (sup := fun x_ => errSup x_ "Idle") (.own (He.ga K "Idle")) (k_ERR.kOwn (C := "Idle") (by decide)) (re_v (i := 0) (a := (e : Er)) rfl)) (fun _ => rfl) (fun (y_5 : Bool) =>
  (rb_freeze (i := 1) (ρ2 := [.own (enc (e : Er)), .bor (enc ((⟨(some_4 : (Lst Bool)).l ++ [y_5]⟩ : (Lst Bool)) : (Lst Bool))), .any, .any]) rfl rfl (rb_ret (re_lc (vs := [2, 3]) (ρw := [.own (enc (e : Er)), .bor (enc ((⟨(some_4 : (Lst Bool)).l ++ [y_5]⟩ : (Lst Bool)) : (Lst Bool))), .any, .any]) (ρx := fun (x_6 : (Nat × Bool)) => [.own (enc (e : Er)), .bor (enc ((⟨(some_4 : (Lst Bool)).l ++ [y_5]⟩ : (Lst Bool)) : (Lst Bool))), .own (enc (x_6.1 : Nat)), .own (enc (x_6.2 : Bool))]) rfl (ri_enL (i := 1) (xs := ((⟨(some_4 : (Lst Bool)).l ++ [y_5]⟩ : (Lst Bool)) : (Lst Bool))) rfl) (by decide) (fun (x_6 : (Nat × Bool)) => (rg_two (i := 2) (j := 3) (ρ1 := [.own (enc (e : Er)), .bor (enc ((⟨(some_4 : (Lst Bool)).l ++ [y_5]⟩ : (Lst Bool)) : (Lst Bool))), .own (enc (x_6.1 : Nat)), .any]) (ρ' := [.own (enc (e : Er)), .bor (enc ((⟨(some_4 : (Lst Bool)).l ++ [y_5]⟩ : (Lst Bool)) : (Lst Bool))), .own (enc (x_6.1 : Nat)), .own (enc (x_6.2 : Bool))]) (show 2 < 4 by decide) (show 3 < 4 by decide) (by decide) rfl rfl)) (fun (x_6 : (Nat × Bool)) => (rt_val (re_v (i := 3) (a := (x_6.2 : Bool)) rfl))) (fun (x_6 : (Nat × Bool)) => (re_v (i := 2) (a := (x_6.1 : Nat)) rfl)))))))))))))))) (by rw [undW_fn] at h; exact h)⟩
/-! ### _law_families_right -/
def famB (found : (Lst Er)) : M (Ctl Bool Unit Unit) :=
  (bindW (retW (enW (found : (Lst Er)).l)) fun X_ => seqW (forW (fun (it_2 : (Nat × Er)) (s_1 : Unit) =>
  (bindW (orW (b2W (c1W (retW (it_2.2 : Er)) fun A_1 => pureW (undW A_1)) (bindW (b2W (retW (it_2.1 : Nat)) (retW ([] : List Nat)) fun a as => retW (a :: as)) fun xs => reqW (xs.length ≤ sizeLine) (retW (⟨xs⟩ : Lst Nat))) (fun (a : (Lst Nat)) (b : (Lst Nat)) => reqW (shapeOk (enc a) ∧ shapeOk (enc b)) (retW (!PyData.eqv (enc a) (enc b))))) (orW (b2W (bindW (retW (it_2.2 : Er)) fun e => reqW (e.cn ∈ errCs) (retW (errSup e.cn "NotSo"))) (b2W (retW (it_2.1 : Nat)) (retW (11 : Nat)) (fun a b : Nat => retW (decide (a < b)))) (fun a b : Bool => retW (!decide (a = b)))) (b2W (bindW (retW (it_2.2 : Er)) fun e => reqW (e.cn ∈ errCs) (retW (errSup e.cn "Gone"))) (b2W (retW (it_2.1 : Nat)) (retW (10 : Nat)) (fun a b : Nat => retW (decide (b < a)))) (fun a b : Bool => retW (!decide (a = b)))))) fun B_ => seqW (if B_ = true then (bindW (retW false) fun r => retW (.ret r)) else (retW (.nxt (() : Unit)))) fun (s_3 : Unit) =>
  (bindW (orW (b2W (bindW (retW (it_2.2 : Er)) fun e => reqW (e.cn ∈ errCs) (retW (errSup e.cn "ValueError"))) (b2W (retW (it_2.1 : Nat)) (retW (11 : Nat)) (fun a b : Nat => retW (decide (a < b)))) (fun a b : Bool => retW (!decide (a = b)))) (b2W (bindW (retW (it_2.2 : Er)) fun e => reqW (e.cn ∈ errCs) (retW (errSup e.cn "LookupError"))) (b2W (retW (it_2.1 : Nat)) (retW (10 : Nat)) (fun a b : Nat => retW (decide (b < a)))) (fun a b : Bool => retW (!decide (a = b))))) fun B_ => seqW (if B_ = true then (bindW (retW false) fun r => retW (.ret r)) else (retW (.nxt (() : Unit)))) fun (s_4 : Unit) =>
  (retW (.nxt (() : Unit)))))) X_ (() : Unit)) fun (s_1 : Unit) =>
  (bindW (retW true) fun r => retW (.ret r)))
theorem famW_ex : ∃ g : (Lst Er) → M Bool, ∀ found, g found = outW (famB found) := ⟨fun found => outW (famB found), fun _ => rfl⟩
/-- sealed -/
def famW : (Lst Er) → M Bool := Classical.choose famW_ex
theorem famW_eq (found : (Lst Er)) : famW found = outW (famB found) := Classical.choose_spec famW_ex found
theorem famW_fn : famW = fun found => outW (famB found) := funext fun found => famW_eq found
theorem scFam : FnScope ["_law_found", "_law_at", "_law_e"] ["_law_found"] (defScope sFam) := ⟨rfl, rfl, rfl, by decide +kernel, rfl, by decide +kernel, by decide +kernel⟩
theorem ok_fam {f_und : Addr} {d_und : FuncData} (F : Fun K "_law_families_right" "_law_families_right" sFam f fd) (b : Bls2 mg) (c_und : CalF P w K mg base 1 "_law_under" f_und d_und ["_law_e"] (spW1 K T undW)) (k_ERR : ErrT K mg errCs errOwn errBlt errFl errSup) : FnOk P w K mg base CX0 2 f fd ["_law_found"] (spW1 K T famW) := by
  refine F.ok scFam (fun vs H Q E h => ?_) (fun cdv A outer s H vs Q E hr h => ?_)
  · exact spW1_len h
  · refine ⟨_, (pss_cons (ps_for PassesOwn.never rfl (pi_enum (by rfl) b.enumerate (pa_cons (pv 0) pa_nil)) (pg_tup (by rfl) (pgs_cons (pg_name (i := 1) scFam.nd rfl (Or.inl rfl)) (pgs_cons (pg_name (i := 2) scFam.nd rfl (Or.inl rfl)) pgs_nil)))
      (pss_cons (ps_if (PW.pt (pw_or (pt_cmpR (op_neD hr.units) (pe_call c_und.G (hr.mono (by decide)) (by rfl) c_und.g c_und.kp c_und.b .nil pass0 (pa_cons (pv 2) pa_nil)) (pe_lst (pa_cons (pv 1) pa_nil)) (nomark _)) (pw_or (pt_cmpR op_ne (pe_callB call_isF (by rfl) b.isinstance (by decide +kernel) (pa_cons (pv 2) (pa_cons (pe_glob (v := .ref (He.ga K "NotSo")) (by rfl) (k_ERR.gl "NotSo" (by decide)) rfl) pa_nil))) (pe_cmpR op_lt (pv 1) pe_int (nomark _)) (nomark _)) (pw_or1 (pt_cmpR op_ne (pe_callB call_isF (by rfl) b.isinstance (by decide +kernel) (pa_cons (pv 2) (pa_cons (pe_glob (v := .ref (He.ga K "Gone")) (by rfl) (k_ERR.gl "Gone" (by decide)) rfl) pa_nil))) (pe_cmpR op_gt (pv 1) pe_int (nomark _)) (nomark _)))))) (pss_cons (ps_ret pe_bl)
      pss_nil) pss_nil)
      (pss_cons (ps_if (PW.pt (pw_or (pt_cmpR op_ne (pe_callB call_isF (by rfl) b.isinstance (by decide +kernel) (pa_cons (pv 2) (pa_cons (pe_bltn (v := .ty "ValueError") (u := .type "ValueError") (by rfl) (k_ERR.nb "ValueError" (by decide)) (by decide +kernel) rfl) pa_nil))) (pe_cmpR op_lt (pv 1) pe_int (nomark _)) (nomark _)) (pw_or1 (pt_cmpR op_ne (pe_callB call_isF (by rfl) b.isinstance (by decide +kernel) (pa_cons (pv 2) (pa_cons (pe_bltn (v := .ty "LookupError") (u := .type "LookupError") (by rfl) (k_ERR.nb "LookupError" (by decide)) (by decide +kernel) rfl) pa_nil))) (pe_cmpR op_gt (pv 1) pe_int (nomark _)) (nomark _))))) (pss_cons (ps_ret pe_bl)
      pss_nil) pss_nil)
      pss_nil)))
      (pss_cons (ps_ret pe_bl)
      pss_nil)), w1_run (N := ["_law_found", "_law_at", "_law_e"]) psl_bor (mB := famB) (ρ := fun (found : (Lst Er)) => [.bor (enc (found : (Lst Er))), .any, .any]) (ρn := fun _ => []) (ρb := fun _ => []) (C := fun _ => True) (fun _ => rfl) trivial (fun (found : (Lst Er)) => 
  (rb_for (s0 := (() : Unit)) (ρl := fun (s_1 : Unit) => [.bor (enc (found : (Lst Er))), .any, .any]) (ρx := fun (it_2 : (Nat × Er)) (s_1 : Unit) => [.bor (enc (found : (Lst Er))), .own (enc (it_2.1 : Nat)), .own (enc (it_2.2 : Er))]) (ri_enL (i := 0) (xs := (found : (Lst Er))) rfl) ⟨.eq _, ⟨.any _, ⟨.any _, trivial⟩⟩⟩ (fun (it_2 : (Nat × Er)) (s_1 : Unit) => (rg_two (i := 1) (j := 2) (ρ1 := [.bor (enc (found : (Lst Er))), .own (enc (it_2.1 : Nat)), .any]) (ρ' := [.bor (enc (found : (Lst Er))), .own (enc (it_2.1 : Nat)), .own (enc (it_2.2 : Er))]) (show 1 < 3 by decide) (show 2 < 3 by decide) (by decide) rfl rfl)) (fun (it_2 : (Nat × Er)) (s_1 : Unit) =>
  (rb_if (ρ1 := fun (s_3 : Unit) => [.bor (enc (found : (Lst Er))), .own (enc (it_2.1 : Nat)), .own (enc (it_2.2 : Er))]) (rt_or (rt_test (re_op ow_neD (re_call1 (re_v (i := 2) (a := (it_2.2 : Er)) rfl)) (re_lst (ras_cons (re_v (i := 1) (a := (it_2.1 : Nat)) rfl) ras_nil)))) (rt_or (rt_test (re_op ow_neB (re_isE (cs := errCs) (sup := fun x_ => errSup x_ "NotSo") (.own (He.ga K "NotSo")) (k_ERR.kOwn (C := "NotSo") (by decide)) (re_v (i := 2) (a := (it_2.2 : Er)) rfl)) (re_op ow_ltN (re_v (i := 1) (a := (it_2.1 : Nat)) rfl) (re_nat 11)))) (rt_test (re_op ow_neB (re_isE (cs := errCs) (sup := fun x_ => errSup x_ "Gone") (.own (He.ga K "Gone")) (k_ERR.kOwn (C := "Gone") (by decide)) (re_v (i := 2) (a := (it_2.2 : Er)) rfl)) (re_op ow_gtN (re_v (i := 1) (a := (it_2.1 : Nat)) rfl) (re_nat 10))))))
  (rb_ret (re_bool false))
  (rb_end (s := (() : Unit)) ⟨.eq _, ⟨.eq _, ⟨.eq _, trivial⟩⟩⟩) (fun (s_3 : Unit) =>
  (rb_if (ρ1 := fun (s_4 : Unit) => [.bor (enc (found : (Lst Er))), .own (enc (it_2.1 : Nat)), .own (enc (it_2.2 : Er))]) (rt_or (rt_test (re_op ow_neB (re_isE (cs := errCs) (sup := fun x_ => errSup x_ "ValueError") (.ty "ValueError") (k_ERR.kBlt (C := "ValueError") (by decide)) (re_v (i := 2) (a := (it_2.2 : Er)) rfl)) (re_op ow_ltN (re_v (i := 1) (a := (it_2.1 : Nat)) rfl) (re_nat 11)))) (rt_test (re_op ow_neB (re_isE (cs := errCs) (sup := fun x_ => errSup x_ "LookupError") (.ty "LookupError") (k_ERR.kBlt (C := "LookupError") (by decide)) (re_v (i := 2) (a := (it_2.2 : Er)) rfl)) (re_op ow_gtN (re_v (i := 1) (a := (it_2.1 : Nat)) rfl) (re_nat 10)))))
  (rb_ret (re_bool false))
  (rb_end (s := (() : Unit)) ⟨.eq _, ⟨.eq _, ⟨.eq _, trivial⟩⟩⟩) (fun (s_4 : Unit) =>
  (rb_end (s := (() : Unit)) ⟨.eq _, ⟨.any _, ⟨.any _, trivial⟩⟩⟩)))))) (fun (s_1 : Unit) =>
  (rb_ret (re_bool true))))) (by rw [famW_fn] at h; exact h)⟩
/-! ### law -/
def lawB (ns : List Int) : M (Ctl Bool Unit Unit) :=
  (bindW (bindW (b2W (retW (1 : Nat)) (b2W (retW (2 : Nat)) (retW ns.length) (fun a b : Nat => retW (min a b))) (fun a b : Nat => retW (max a b))) fun k => reqW (k < 4611686018427387904) (retW (List.range k))) fun X_ => seqW (forW (fun (k_2 : Nat) (s_1 : Unit) =>
  (potW (ns.length ≤ 63 ∧ k_2 ≤ 100) (bindW (c1W (bindW (b2W (mapW (fun n : Nat => (n : Int)) (retW (0 : Nat))) (b2W (mapW (fun n : Nat => (n : Int)) (retW (1 : Nat))) (b2W (mapW (fun n : Nat => (n : Int)) (c1W (retW (1000000000 : Nat)) fun A_1 => takeB A_1)) (b2W (mapW (fun n : Nat => (n : Int)) (c1W (retW (1000000000000000000000000000000 : Nat)) fun A_1 => takeB A_1)) (b2W (mapW (fun z : Int => -z) (retW (1 : Int))) (retW ([] : List Int)) fun a as => retW (a :: as)) fun a as => retW (a :: as)) fun a as => retW (a :: as)) fun a as => retW (a :: as)) fun a as => retW (a :: as)) fun xs => reqW (xs.length ≤ sizeLine) (retW (⟨xs⟩ : Lst Int))) fun A_1 => ofW A_1) fun (size_3 : Int) =>
  (bindW oddW fun (thing_4 : Ad) =>
  (fun n_33 P_34 => (mapW (fun a_ : Ad => (⟨"NoInverse", some ("number", a_)⟩ : Er)) (mapW (fun a : Int => (⟨ToA.ad a⟩ : Ad)) (retW (size_3 : Int)))) n_33 fun (undone_5 : Er) n_33a => (mapW (fun a_ : Ad => (⟨"TooFew", some ("many", a_)⟩ : Er)) (mapW (fun a : Int => (⟨ToA.ad a⟩ : Ad)) (b2W (retW (size_3 : Int)) (mapW (fun n : Nat => (n : Int)) (retW (1 : Nat))) (fun a b : Int => retW (a + b))))) n_33a fun (few_6 : Er) n_33b => (mapW (fun a_ : Ad => (⟨"BadNumbers", some ("thing", a_)⟩ : Er)) (retW (thing_4 : Ad))) n_33b fun (numbers_7 : Er) n_33c =>
  ((fun n_31 P_32 => (mapW (fun a_ : Ad => (⟨"BadHouse", some ("thing", a_)⟩ : Er)) (retW (thing_4 : Ad))) n_31 fun (town_8 : Er) n_31a => (mapW (fun a_ : Ad => (⟨"BadRows", some ("thing", a_)⟩ : Er)) (mapW (fun a : Int => (⟨ToA.ad a⟩ : Ad)) (retW (size_3 : Int)))) n_31a fun (some_9 : Er) n_31b => (mapW (fun a_ : Ad => (⟨"NoNumber", some ("thing", a_)⟩ : Er)) (retW (thing_4 : Ad))) n_31b fun (one_10 : Er) n_31c =>
  ((fun n_29 P_30 => (mapW (fun a_ : Ad => (⟨"NoText", some ("row", a_)⟩ : Er)) (mapW (fun a : Int => (⟨ToA.ad a⟩ : Ad)) (b2W (retW (size_3 : Int)) (mapW (fun n : Nat => (n : Int)) (retW (2 : Nat))) (fun a b : Int => retW (a + b))))) n_29 fun (text_11 : Er) n_29a => (mapW (fun a_ : Ad => (⟨"NoLine", some ("thing", a_)⟩ : Er)) (retW (thing_4 : Ad))) n_29a fun (line_12 : Er) n_29b => (mapW (fun a_ : Ad => (⟨"Early", some ("beats", a_)⟩ : Er)) (mapW (fun a : Int => (⟨ToA.ad a⟩ : Ad)) (b2W (retW (size_3 : Int)) (mapW (fun n : Nat => (n : Int)) (retW (3 : Nat))) (fun a b : Int => retW (a + b))))) n_29b fun (early_13 : Er) n_29c =>
  ((fun n_27 P_28 => (mapW (fun a_ : Ad => (⟨"Bad", some ("hand", a_)⟩ : Er)) (mapW (fun a : Int => (⟨ToA.ad a⟩ : Ad)) (b2W (retW (size_3 : Int)) (mapW (fun n : Nat => (n : Int)) (retW (4 : Nat))) (fun a b : Int => retW (a + b))))) n_27 fun (bad_14 : Er) n_27a => (mapW (fun a_ : Ad => (⟨"NoHand", some ("thing", a_)⟩ : Er)) (retW (thing_4 : Ad))) n_27a fun (hand_15 : Er) n_27b => (mapW (fun a_ : Ad => (⟨"NoBit", some ("thing", a_)⟩ : Er)) (retW (thing_4 : Ad))) n_27b fun (bit_16 : Er) n_27c =>
  ((b2W (mapW (fun a_ : Ad => (⟨"NoLetter", some ("thing", a_)⟩ : Er)) (mapW (fun a : Int => (⟨ToA.ad a⟩ : Ad)) (b2W (retW (size_3 : Int)) (mapW (fun n : Nat => (n : Int)) (retW (5 : Nat))) (fun a b : Int => retW (a + b))))) (mapW (fun a_ : Ad => (⟨"NoTree", some ("thing", a_)⟩ : Er)) (retW (thing_4 : Ad))) fun (letter_17 : Er) (tree_18 : Er) =>
  (bindW (bindW (b2W (retW (undone_5 : Er)) (b2W (retW (few_6 : Er)) (b2W (retW (numbers_7 : Er)) (b2W (retW (town_8 : Er)) (b2W (retW (some_9 : Er)) (b2W (retW (one_10 : Er)) (b2W (retW (text_11 : Er)) (b2W (retW (line_12 : Er)) (b2W (retW (early_13 : Er)) (retW ([] : List Er)) fun a as => retW (a :: as)) fun a as => retW (a :: as)) fun a as => retW (a :: as)) fun a as => retW (a :: as)) fun a as => retW (a :: as)) fun a as => retW (a :: as)) fun a as => retW (a :: as)) fun a as => retW (a :: as)) fun a as => retW (a :: as)) fun xs => reqW (xs.length ≤ sizeLine) (retW (⟨xs⟩ : Lst Er))) fun (found_19 : (Lst Er)) =>
  (bindW (b2W (retW (found_19 : (Lst Er))) (bindW (b2W (retW (⟨"Busy", none⟩ : Er)) (b2W (retW (bad_14 : Er)) (b2W (retW (hand_15 : Er)) (b2W (retW (bit_16 : Er)) (b2W (retW (letter_17 : Er)) (b2W (retW (tree_18 : Er)) (b2W (retW (⟨"Ended", none⟩ : Er)) (b2W (retW (⟨"Idle", none⟩ : Er)) (retW ([] : List Er)) fun a as => retW (a :: as)) fun a as => retW (a :: as)) fun a as => retW (a :: as)) fun a as => retW (a :: as)) fun a as => retW (a :: as)) fun a as => retW (a :: as)) fun a as => retW (a :: as)) fun a as => retW (a :: as)) fun xs => reqW (xs.length ≤ sizeLine) (retW (⟨xs⟩ : Lst Er))) (fun xs ys : Lst Er => reqW (xs.l.length + ys.l.length ≤ sizeLine) (retW (⟨xs.l ++ ys.l⟩ : Lst Er)))) fun (found_20 : (Lst Er)) =>
  (bindW (mapW (fun b => !b) (c1W (retW (found_20 : (Lst Er))) fun A_1 => pureW (famW A_1))) fun B_ => seqW (if B_ = true then (bindW (retW false) fun r => retW (.ret r)) else (retW (.nxt (() : Unit)))) fun (s_21 : Unit) =>
  (bindW (bindW (b2W (fun n_ P_ => (retW (undone_5 : Er)) n_ fun e_ n1_ => ∃ a_, e_.cn ∈ (["NoInverse"] : List Str) ∧ e_.fl = some (("number" : Str), a_) ∧ P_ a_ n1_ : M Ad) (b2W (fun n_ P_ => (retW (few_6 : Er)) n_ fun e_ n1_ => ∃ a_, e_.cn ∈ (["TooFew"] : List Str) ∧ e_.fl = some (("many" : Str), a_) ∧ P_ a_ n1_ : M Ad) (b2W (fun n_ P_ => (retW (text_11 : Er)) n_ fun e_ n1_ => ∃ a_, e_.cn ∈ (["NoText"] : List Str) ∧ e_.fl = some (("row" : Str), a_) ∧ P_ a_ n1_ : M Ad) (b2W (fun n_ P_ => (retW (early_13 : Er)) n_ fun e_ n1_ => ∃ a_, e_.cn ∈ (["Early"] : List Str) ∧ e_.fl = some (("beats" : Str), a_) ∧ P_ a_ n1_ : M Ad) (b2W (fun n_ P_ => (retW (bad_14 : Er)) n_ fun e_ n1_ => ∃ a_, e_.cn ∈ (["Bad"] : List Str) ∧ e_.fl = some (("hand" : Str), a_) ∧ P_ a_ n1_ : M Ad) (b2W (fun n_ P_ => (retW (letter_17 : Er)) n_ fun e_ n1_ => ∃ a_, e_.cn ∈ (["BadNumbers", "BadHouse", "BadRows", "NoNumber", "NoLine", "NoHand", "NoBit", "NoLetter", "NoTree"] : List Str) ∧ e_.fl = some (("thing" : Str), a_) ∧ P_ a_ n1_ : M Ad) (retW ([] : List Ad)) fun a as => retW (a :: as)) fun a as => retW (a :: as)) fun a as => retW (a :: as)) fun a as => retW (a :: as)) fun a as => retW (a :: as)) fun a as => retW (a :: as)) fun xs => reqW (xs.length ≤ sizeLine) (retW (⟨xs⟩ : Lst Ad))) fun (kept_22 : (Lst Ad)) =>
  (bindW (b2W (bindW (retW (kept_22 : (Lst Ad))) fun xs : Lst Ad => reqW (ShOk (.list (xs.l.map ToA.ad))) (retW ((PyData.list (xs.l.map ToA.ad)).shown : Str))) (bindW (bindW (b2W (mapW (fun a : Int => (⟨ToA.ad a⟩ : Ad)) (retW (size_3 : Int))) (b2W (mapW (fun a : Int => (⟨ToA.ad a⟩ : Ad)) (b2W (retW (size_3 : Int)) (mapW (fun n : Nat => (n : Int)) (retW (1 : Nat))) (fun a b : Int => retW (a + b)))) (b2W (mapW (fun a : Int => (⟨ToA.ad a⟩ : Ad)) (b2W (retW (size_3 : Int)) (mapW (fun n : Nat => (n : Int)) (retW (2 : Nat))) (fun a b : Int => retW (a + b)))) (b2W (mapW (fun a : Int => (⟨ToA.ad a⟩ : Ad)) (b2W (retW (size_3 : Int)) (mapW (fun n : Nat => (n : Int)) (retW (3 : Nat))) (fun a b : Int => retW (a + b)))) (b2W (mapW (fun a : Int => (⟨ToA.ad a⟩ : Ad)) (b2W (retW (size_3 : Int)) (mapW (fun n : Nat => (n : Int)) (retW (4 : Nat))) (fun a b : Int => retW (a + b)))) (b2W (mapW (fun a : Int => (⟨ToA.ad a⟩ : Ad)) (b2W (retW (size_3 : Int)) (mapW (fun n : Nat => (n : Int)) (retW (5 : Nat))) (fun a b : Int => retW (a + b)))) (retW ([] : List Ad)) fun a as => retW (a :: as)) fun a as => retW (a :: as)) fun a as => retW (a :: as)) fun a as => retW (a :: as)) fun a as => retW (a :: as)) fun a as => retW (a :: as)) fun xs => reqW (xs.length ≤ sizeLine) (retW (⟨xs⟩ : Lst Ad))) fun xs : Lst Ad => reqW (ShOk (.list (xs.l.map ToA.ad))) (retW ((PyData.list (xs.l.map ToA.ad)).shown : Str))) (fun a b : Str => retW (!decide (a = b)))) fun B_ => seqW (if B_ = true then (bindW (retW false) fun r => retW (.ret r)) else (retW (.nxt (() : Unit)))) fun (s_23 : Unit) =>
  (bindW (bindW (b2W (fun n_ P_ => (retW (numbers_7 : Er)) n_ fun e_ n1_ => ∃ a_, e_.cn ∈ (["BadNumbers", "BadHouse", "BadRows", "NoNumber", "NoLine", "NoHand", "NoBit", "NoLetter", "NoTree"] : List Str) ∧ e_.fl = some (("thing" : Str), a_) ∧ P_ a_ n1_ : M Ad) (b2W (fun n_ P_ => (retW (town_8 : Er)) n_ fun e_ n1_ => ∃ a_, e_.cn ∈ (["BadNumbers", "BadHouse", "BadRows", "NoNumber", "NoLine", "NoHand", "NoBit", "NoLetter", "NoTree"] : List Str) ∧ e_.fl = some (("thing" : Str), a_) ∧ P_ a_ n1_ : M Ad) (b2W (fun n_ P_ => (retW (one_10 : Er)) n_ fun e_ n1_ => ∃ a_, e_.cn ∈ (["BadNumbers", "BadHouse", "BadRows", "NoNumber", "NoLine", "NoHand", "NoBit", "NoLetter", "NoTree"] : List Str) ∧ e_.fl = some (("thing" : Str), a_) ∧ P_ a_ n1_ : M Ad) (b2W (fun n_ P_ => (retW (line_12 : Er)) n_ fun e_ n1_ => ∃ a_, e_.cn ∈ (["BadNumbers", "BadHouse", "BadRows", "NoNumber", "NoLine", "NoHand", "NoBit", "NoLetter", "NoTree"] : List Str) ∧ e_.fl = some (("thing" : Str), a_) ∧ P_ a_ n1_ : M Ad) (b2W (fun n_ P_ => (retW (hand_15 : Er)) n_ fun e_ n1_ => ∃ a_, e_.cn ∈ (["BadNumbers", "BadHouse", "BadRows", "NoNumber", "NoLine", "NoHand", "NoBit", "NoLetter", "NoTree"] : List Str) ∧ e_.fl = some (("thing" : Str), a_) ∧ P_ a_ n1_ : M Ad) (retW ([] : List Ad)) fun a as => retW (a :: as)) fun a as => retW (a :: as)) fun a as => retW (a :: as)) fun a as => retW (a :: as)) fun a as => retW (a :: as)) fun xs => reqW (xs.length ≤ sizeLine) (retW (⟨xs⟩ : Lst Ad))) fun (kept_24 : (Lst Ad)) =>
  (bindW (b2W (retW (kept_24 : (Lst Ad))) (bindW (b2W (fun n_ P_ => (retW (bit_16 : Er)) n_ fun e_ n1_ => ∃ a_, e_.cn ∈ (["BadNumbers", "BadHouse", "BadRows", "NoNumber", "NoLine", "NoHand", "NoBit", "NoLetter", "NoTree"] : List Str) ∧ e_.fl = some (("thing" : Str), a_) ∧ P_ a_ n1_ : M Ad) (b2W (fun n_ P_ => (retW (tree_18 : Er)) n_ fun e_ n1_ => ∃ a_, e_.cn ∈ (["BadNumbers", "BadHouse", "BadRows", "NoNumber", "NoLine", "NoHand", "NoBit", "NoLetter", "NoTree"] : List Str) ∧ e_.fl = some (("thing" : Str), a_) ∧ P_ a_ n1_ : M Ad) (b2W (fun n_ P_ => (retW (some_9 : Er)) n_ fun e_ n1_ => ∃ a_, e_.cn ∈ (["BadNumbers", "BadHouse", "BadRows", "NoNumber", "NoLine", "NoHand", "NoBit", "NoLetter", "NoTree"] : List Str) ∧ e_.fl = some (("thing" : Str), a_) ∧ P_ a_ n1_ : M Ad) (retW ([] : List Ad)) fun a as => retW (a :: as)) fun a as => retW (a :: as)) fun a as => retW (a :: as)) fun xs => reqW (xs.length ≤ sizeLine) (retW (⟨xs⟩ : Lst Ad))) (fun xs ys : Lst Ad => reqW (xs.l.length + ys.l.length ≤ sizeLine) (retW (⟨xs.l ++ ys.l⟩ : Lst Ad)))) fun (kept_25 : (Lst Ad)) =>
  (bindW (b2W (bindW (retW (kept_25 : (Lst Ad))) fun xs : Lst Ad => reqW (ShOk (.list (xs.l.map ToA.ad))) (retW ((PyData.list (xs.l.map ToA.ad)).shown : Str))) (bindW (b2W (b2W (bindW (b2W (retW (thing_4 : Ad)) (retW ([] : List Ad)) fun a as => retW (a :: as)) fun xs => reqW (xs.length ≤ sizeLine) (retW (⟨xs⟩ : Lst Ad))) (mapW (fun n : Nat => (n : Int)) (retW (7 : Nat))) (fun (xs : Lst Ad) (k : Int) => reqW (-(2 ^ 63) ≤ k ∧ k < 2 ^ 63 ∧ xs.l.length * k.toNat ≤ sizeLine) (retW (⟨(List.replicate k.toNat xs.l).flatten⟩ : Lst Ad)))) (bindW (b2W (mapW (fun a : Int => (⟨ToA.ad a⟩ : Ad)) (retW (size_3 : Int))) (retW ([] : List Ad)) fun a as => retW (a :: as)) fun xs => reqW (xs.length ≤ sizeLine) (retW (⟨xs⟩ : Lst Ad))) (fun xs ys : Lst Ad => reqW (xs.l.length + ys.l.length ≤ sizeLine) (retW (⟨xs.l ++ ys.l⟩ : Lst Ad)))) fun xs : Lst Ad => reqW (ShOk (.list (xs.l.map ToA.ad))) (retW ((PyData.list (xs.l.map ToA.ad)).shown : Str))) (fun a b : Str => retW (!decide (a = b)))) fun B_ => seqW (if B_ = true then (bindW (retW false) fun r => retW (.ret r)) else (retW (.nxt (() : Unit)))) fun (s_26 : Unit) =>
  (retW (.nxt (() : Unit))))))))))))) n_27c P_28)) n_29c P_30)) n_31c P_32)) n_33c P_34))))) X_ (() : Unit)) fun (s_1 : Unit) =>
  (bindW (retW true) fun r => retW (.ret r)))
theorem scLaw : FnScope ["_law_script", "_law_k", "_law_pot_here", "_law_size", "_law_thing", "_law_found", "_law_kept", "_law_undone", "_law_few", "_law_numbers", "_law_town", "_law_some", "_law_one", "_law_text", "_law_line", "_law_early", "_law_bad", "_law_hand", "_law_bit", "_law_letter", "_law_tree"] ["_law_script"] (defScope sLaw) := ⟨rfl, rfl, rfl, by decide +kernel, rfl, by decide +kernel, by decide +kernel⟩
theorem ok_law {f_fam f_odd f_of f_take : Addr} {d_fam d_odd d_of d_take : FuncData} {f_urn : Addr} {d_urn : FuncData} (F : Fun K "law" "law" sLaw f fd) (b : Bls2 mg) (c_fam : CalF P w K mg base 2 "_law_families_right" f_fam d_fam ["_law_found"] (spW1 K ([] : List (Addr × Str)) famW)) (c_odd : CalF P w K mg base 3 "_law_odd" f_odd d_odd ["_law_pot_here"] (spP0 K ([] : List (Addr × Str)) oddW)) (c_of : ∀ {α : Type} [Enc α] [Pu α], CalF P w K mg base 2 "_law_of" f_of d_of ["_law_pot_here", "_law_some"] (spP1 K ([] : List (Addr × Str)) (ofW (α := α)))) (c_take : CalF P w K mg base 1 "_law_take" f_take d_take ["_law_pot_here", "_law_upto"] (spP1 K ([] : List (Addr × Str)) takeB)) (k_ERR : ErrT K mg errCs errOwn errBlt errFl errSup) (R_Bad : RzC P w K mg base "Bad" "hand") (R_BadHouse : RzC P w K mg base "BadHouse" "thing") (R_BadNumbers : RzC P w K mg base "BadNumbers" "thing") (R_BadRows : RzC P w K mg base "BadRows" "thing") (R_Busy : Mk0 K mg "Busy") (R_Early : RzC P w K mg base "Early" "beats") (R_Ended : Mk0 K mg "Ended") (R_Idle : Mk0 K mg "Idle") (R_NoBit : RzL P w K mg base "NoBit" "thing") (R_NoHand : RzL P w K mg base "NoHand" "thing") (R_NoInverse : RzC P w K mg base "NoInverse" "number") (R_NoLetter : RzL P w K mg base "NoLetter" "thing") (R_NoLine : RzC P w K mg base "NoLine" "thing") (R_NoNumber : RzC P w K mg base "NoNumber" "thing") (R_NoText : RzC P w K mg base "NoText" "row") (R_NoTree : RzL P w K mg base "NoTree" "thing") (R_TooFew : RzC P w K mg base "TooFew" "many") (c_urn : CalF P w K mg base 1 "_law_pot" f_urn d_urn ["_law_script", "_law_k"] (spPot K)) (win : ∀ ns : List Int, ns.length ≤ 63 → outW (lawB ns) 0 fun r _ => r = true) : FnG P w K mg base 4 f fd ["_law_script"] (spLaw K) := by
  refine fnG_of F scLaw (fun vs H Q E h => ?_) (fun cdv A outer s H vs Q E gd hr h => ?_)
  · exact spLaw_len h
  · refine ⟨_, (pss_cons (ps_for PassesOwn.never rfl (pi_range1 (by rfl) b.range (pa_cons (pe_callB (call_max2 rfl) (by rfl) b.max (by decide +kernel) (pa_cons pe_int (pa_cons (pe_callB (call_min2 rfl) (by rfl) b.min (by decide +kernel) (pa_cons pe_int (pa_cons (pe_callB call_len_seq (by rfl) b.len PySem.boot_len (pa_cons (pv 0) pa_nil)) pa_nil))) pa_nil))) pa_nil)) (pg_name (i := 1) scLaw.nd rfl (Or.inl rfl))
      (pss_cons (ps_set (i := 2) scLaw.nd rfl (.inl rfl) (pe_call c_urn.G (hr.mono (by decide)) (by rfl) c_urn.g c_urn.kp c_urn.b .nil pass0 (pa_cons (pv 0) (pa_cons (pv 1) pa_nil))))
      (pss_cons (ps_set (i := 3) scLaw.nd rfl (.inl rfl) (pe_call (c_of (α := Int)).G (hr.mono (by decide)) (by rfl) (c_of (α := Int)).g (c_of (α := Int)).kp (c_of (α := Int)).b .nil pass0 (pa_cons (pv 2) (pa_cons (pe_lst (pa_cons pe_int (pa_cons pe_int (pa_cons (pe_call c_take.G (hr.mono (by decide)) (by rfl) c_take.g c_take.kp c_take.b .nil pass0 (pa_cons (pv 2) (pa_cons (pe_op op_powW pe_int pe_int) pa_nil))) (pa_cons (pe_call c_take.G (hr.mono (by decide)) (by rfl) c_take.g c_take.kp c_take.b .nil pass0 (pa_cons (pv 2) (pa_cons (pe_op op_powW pe_int pe_int) pa_nil))) (pa_cons (pe_un un_neg pe_int) pa_nil)))))) pa_nil))))
      (pss_cons (ps_set (i := 4) scLaw.nd rfl (.inl rfl) (pe_call c_odd.G (hr.mono (by decide)) (by rfl) c_odd.g c_odd.kp c_odd.b .nil pass0 (pa_cons (pv 2) pa_nil)))
      (pss_cons (ps_par3 (i := 7) (j := 8) (l := 9) (by rfl) scLaw.nd rfl rfl rfl (by decide) (by decide) (by decide) rfl rfl rfl (pa_cons (pe_mkV R_NoInverse (hr.mono (by decide)) rfl (pv 3)) (pa_cons (pe_mkV R_TooFew (hr.mono (by decide)) rfl (pe_op op_add (pv 3) pe_int)) (pa_cons (pe_mkV R_BadNumbers (hr.mono (by decide)) rfl (pv 4)) pa_nil))) (by rfl))
      (pss_cons (ps_par3 (i := 10) (j := 11) (l := 12) (by rfl) scLaw.nd rfl rfl rfl (by decide) (by decide) (by decide) rfl rfl rfl (pa_cons (pe_mkV R_BadHouse (hr.mono (by decide)) rfl (pv 4)) (pa_cons (pe_mkV R_BadRows (hr.mono (by decide)) rfl (pv 3)) (pa_cons (pe_mkV R_NoNumber (hr.mono (by decide)) rfl (pv 4)) pa_nil))) (by rfl))
      (pss_cons (ps_par3 (i := 13) (j := 14) (l := 15) (by rfl) scLaw.nd rfl rfl rfl (by decide) (by decide) (by decide) rfl rfl rfl (pa_cons (pe_mkV R_NoText (hr.mono (by decide)) rfl (pe_op op_add (pv 3) pe_int)) (pa_cons (pe_mkV R_NoLine (hr.mono (by decide)) rfl (pv 4)) (pa_cons (pe_mkV R_Early (hr.mono (by decide)) rfl (pe_op op_add (pv 3) pe_int)) pa_nil))) (by rfl))
      (pss_cons (ps_par3 (i := 16) (j := 17) (l := 18) (by rfl) scLaw.nd rfl rfl rfl (by decide) (by decide) (by decide) rfl rfl rfl (pa_cons (pe_mkV R_Bad (hr.mono (by decide)) rfl (pe_op op_add (pv 3) pe_int)) (pa_cons (pe_mkL R_NoHand (hr.mono (by decide)) rfl (pv 4)) (pa_cons (pe_mkL R_NoBit (hr.mono (by decide)) rfl (pv 4)) pa_nil))) (by rfl))
      (pss_cons (ps_par (i := 19) (j := 20) (by rfl) scLaw.nd rfl rfl (by decide) rfl rfl (pa_cons (pe_mkL R_NoLetter (hr.mono (by decide)) rfl (pe_op op_add (pv 3) pe_int)) (pa_cons (pe_mkL R_NoTree (hr.mono (by decide)) rfl (pv 4)) pa_nil)) (by rfl))
      (pss_cons (ps_set (i := 5) scLaw.nd rfl (.inl rfl) (pe_lst (pa_cons (pv 7) (pa_cons (pv 8) (pa_cons (pv 9) (pa_cons (pv 10) (pa_cons (pv 11) (pa_cons (pv 12) (pa_cons (pv 13) (pa_cons (pv 14) (pa_cons (pv 15) pa_nil)))))))))))
      (pss_cons (ps_set (i := 5) scLaw.nd rfl (.inl rfl) (pe_op op_cat (pv 5) (pe_lst (pa_cons (pe_mk0 R_Busy rfl) (pa_cons (pv 16) (pa_cons (pv 17) (pa_cons (pv 18) (pa_cons (pv 19) (pa_cons (pv 20) (pa_cons (pe_mk0 R_Ended rfl) (pa_cons (pe_mk0 R_Idle rfl) pa_nil)))))))))))
      (pss_cons (ps_if (pt_not (pt_val (pe_call c_fam.G (hr.mono (by decide)) (by rfl) c_fam.g c_fam.kp c_fam.b .nil pass0 (pa_cons (pv 5) pa_nil)))) (pss_cons (ps_ret pe_bl)
      pss_nil) pss_nil)
      (pss_cons (ps_set (i := 6) scLaw.nd rfl (.inl rfl) (pe_lst (pa_cons (pe_efF (cs := ((["NoInverse"] : List Str).map (He.ga K))) (k_ERR.fld (L := ["NoInverse"]) (f := "number") (by decide)) (pv 7)) (pa_cons (pe_efF (cs := ((["TooFew"] : List Str).map (He.ga K))) (k_ERR.fld (L := ["TooFew"]) (f := "many") (by decide)) (pv 8)) (pa_cons (pe_efF (cs := ((["NoText"] : List Str).map (He.ga K))) (k_ERR.fld (L := ["NoText"]) (f := "row") (by decide)) (pv 13)) (pa_cons (pe_efF (cs := ((["Early"] : List Str).map (He.ga K))) (k_ERR.fld (L := ["Early"]) (f := "beats") (by decide)) (pv 15)) (pa_cons (pe_efF (cs := ((["Bad"] : List Str).map (He.ga K))) (k_ERR.fld (L := ["Bad"]) (f := "hand") (by decide)) (pv 16)) (pa_cons (pe_efF (cs := ((["BadNumbers", "BadHouse", "BadRows", "NoNumber", "NoLine", "NoHand", "NoBit", "NoLetter", "NoTree"] : List Str).map (He.ga K))) (k_ERR.fld (L := ["BadNumbers", "BadHouse", "BadRows", "NoNumber", "NoLine", "NoHand", "NoBit", "NoLetter", "NoTree"]) (f := "thing") (by decide)) (pv 19)) pa_nil))))))))
      (pss_cons (ps_if (pt_cmpR op_ne (pe_callB (call_reprLA gd hr.units) (by rfl) b.repr (by decide +kernel) (pa_cons (pv 6) pa_nil)) (pe_callB (call_reprLA gd hr.units) (by rfl) b.repr (by decide +kernel) (pa_cons (pe_lst (pa_cons (pv 3) (pa_cons (pe_op op_add (pv 3) pe_int) (pa_cons (pe_op op_add (pv 3) pe_int) (pa_cons (pe_op op_add (pv 3) pe_int) (pa_cons (pe_op op_add (pv 3) pe_int) (pa_cons (pe_op op_add (pv 3) pe_int) pa_nil))))))) pa_nil)) (nomark _)) (pss_cons (ps_ret pe_bl)
      pss_nil) pss_nil)
      (pss_cons (ps_set (i := 6) scLaw.nd rfl (.inl rfl) (pe_lst (pa_cons (pe_efF (cs := ((["BadNumbers", "BadHouse", "BadRows", "NoNumber", "NoLine", "NoHand", "NoBit", "NoLetter", "NoTree"] : List Str).map (He.ga K))) (k_ERR.fld (L := ["BadNumbers", "BadHouse", "BadRows", "NoNumber", "NoLine", "NoHand", "NoBit", "NoLetter", "NoTree"]) (f := "thing") (by decide)) (pv 9)) (pa_cons (pe_efF (cs := ((["BadNumbers", "BadHouse", "BadRows", "NoNumber", "NoLine", "NoHand", "NoBit", "NoLetter", "NoTree"] : List Str).map (He.ga K))) (k_ERR.fld (L := ["BadNumbers", "BadHouse", "BadRows", "NoNumber", "NoLine", "NoHand", "NoBit", "NoLetter", "NoTree"]) (f := "thing") (by decide)) (pv 10)) (pa_cons (pe_efF (cs := ((["BadNumbers", "BadHouse", "BadRows", "NoNumber", "NoLine", "NoHand", "NoBit", "NoLetter", "NoTree"] : List Str).map (He.ga K))) (k_ERR.fld (L := ["BadNumbers", "BadHouse", "BadRows", "NoNumber", "NoLine", "NoHand", "NoBit", "NoLetter", "NoTree"]) (f := "thing") (by decide)) (pv 12)) (pa_cons (pe_efF (cs := ((["BadNumbers", "BadHouse", "BadRows", "NoNumber", "NoLine", "NoHand", "NoBit", "NoLetter", "NoTree"] : List Str).map (He.ga K))) (k_ERR.fld (L := ["BadNumbers", "BadHouse", "BadRows", "NoNumber", "NoLine", "NoHand", "NoBit", "NoLetter", "NoTree"]) (f := "thing") (by decide)) (pv 14)) (pa_cons (pe_efF (cs := ((["BadNumbers", "BadHouse", "BadRows", "NoNumber", "NoLine", "NoHand", "NoBit", "NoLetter", "NoTree"] : List Str).map (He.ga K))) (k_ERR.fld (L := ["BadNumbers", "BadHouse", "BadRows", "NoNumber", "NoLine", "NoHand", "NoBit", "NoLetter", "NoTree"]) (f := "thing") (by decide)) (pv 17)) pa_nil)))))))
      (pss_cons (ps_set (i := 6) scLaw.nd rfl (.inl rfl) (pe_op op_cat (pv 6) (pe_lst (pa_cons (pe_efF (cs := ((["BadNumbers", "BadHouse", "BadRows", "NoNumber", "NoLine", "NoHand", "NoBit", "NoLetter", "NoTree"] : List Str).map (He.ga K))) (k_ERR.fld (L := ["BadNumbers", "BadHouse", "BadRows", "NoNumber", "NoLine", "NoHand", "NoBit", "NoLetter", "NoTree"]) (f := "thing") (by decide)) (pv 18)) (pa_cons (pe_efF (cs := ((["BadNumbers", "BadHouse", "BadRows", "NoNumber", "NoLine", "NoHand", "NoBit", "NoLetter", "NoTree"] : List Str).map (He.ga K))) (k_ERR.fld (L := ["BadNumbers", "BadHouse", "BadRows", "NoNumber", "NoLine", "NoHand", "NoBit", "NoLetter", "NoTree"]) (f := "thing") (by decide)) (pv 20)) (pa_cons (pe_efF (cs := ((["BadNumbers", "BadHouse", "BadRows", "NoNumber", "NoLine", "NoHand", "NoBit", "NoLetter", "NoTree"] : List Str).map (He.ga K))) (k_ERR.fld (L := ["BadNumbers", "BadHouse", "BadRows", "NoNumber", "NoLine", "NoHand", "NoBit", "NoLetter", "NoTree"]) (f := "thing") (by decide)) (pv 11)) pa_nil))))))
      (pss_cons (ps_if (pt_cmpR op_ne (pe_callB (call_reprLA gd hr.units) (by rfl) b.repr (by decide +kernel) (pa_cons (pv 6) pa_nil)) (pe_callB (call_reprLA gd hr.units) (by rfl) b.repr (by decide +kernel) (pa_cons (pe_op op_cat (pe_op op_rep (pe_lst (pa_cons (pv 4) pa_nil)) pe_int) (pe_lst (pa_cons (pv 3) pa_nil))) pa_nil)) (nomark _)) (pss_cons (ps_ret pe_bl)
      pss_nil) pss_nil)
      pss_nil)))))))))))))))))
      (pss_cons (ps_ret pe_bl)
      pss_nil)), law_run (T := []) (N := ["_law_script", "_law_k", "_law_pot_here", "_law_size", "_law_thing", "_law_found", "_law_kept", "_law_undone", "_law_few", "_law_numbers", "_law_town", "_law_some", "_law_one", "_law_text", "_law_line", "_law_early", "_law_bad", "_law_hand", "_law_bit", "_law_letter", "_law_tree"]) (mB := lawB) (ρ := fun ns => [.scr ns, .any, .any, .any, .any, .any, .any, .any, .any, .any, .any, .any, .any, .any, .any, .any, .any, .any, .any, .any, .any]) (ρn := fun _ => []) (ρb := fun _ => []) (C := fun po => po = none) (fun _ => rfl) rfl rfl (fun ns =>
  (rb_for (s0 := (() : Unit)) (ρl := fun (s_1 : Unit) => [.scr ns, .any, .any, .any, .any, .any, .any, .any, .any, .any, .any, .any, .any, .any, .any, .any, .any, .any, .any, .any, .any]) (ρx := fun (k_2 : Nat) (s_1 : Unit) => [.scr ns, .own (enc (k_2 : Nat)), .any, .any, .any, .any, .any, .any, .any, .any, .any, .any, .any, .any, .any, .any, .any, .any, .any, .any, .any]) (ri_range (re_cb2 ow_max (re_nat 1) (re_cb2 ow_min (re_nat 2) (re_lenS (i := 0) (ns := ns) rfl)))) ⟨.eq _, ⟨.any _, ⟨.any _, ⟨.any _, ⟨.any _, ⟨.any _, ⟨.any _, ⟨.any _, ⟨.any _, ⟨.any _, ⟨.any _, ⟨.any _, ⟨.any _, ⟨.any _, ⟨.any _, ⟨.any _, ⟨.any _, ⟨.any _, ⟨.any _, ⟨.any _, ⟨.any _, trivial⟩⟩⟩⟩⟩⟩⟩⟩⟩⟩⟩⟩⟩⟩⟩⟩⟩⟩⟩⟩⟩ (fun (k_2 : Nat) (s_1 : Unit) => (rg_name (i := 1) (ρ' := [.scr ns, .own (enc (k_2 : Nat)), .any, .any, .any, .any, .any, .any, .any, .any, .any, .any, .any, .any, .any, .any, .any, .any, .any, .any, .any]) (show 1 < 21 by decide) rfl)) (fun (k_2 : Nat) (s_1 : Unit) =>
  (rb_newpot (i := 2) (ρ2 := [.scr ns, .own (enc (k_2 : Nat)), .pot, .any, .any, .any, .any, .any, .any, .any, .any, .any, .any, .any, .any, .any, .any, .any, .any, .any, .any]) (fun Bs φ σ H n st hk Q q => urn_pot st rfl (i2 := 1) rfl hk q) (show 2 < 21 by decide) trivial rfl (rb_asg (ρ2 := fun (size_3 : Int) => [.scr ns, .own (enc (k_2 : Nat)), .pot, .own (enc (size_3 : Int)), .any, .any, .any, .any, .any, .any, .any, .any, .any, .any, .any, .any, .any, .any, .any, .any, .any]) (re_callp1 (ip := 2) rfl (re_lst (ras_cons (re_ofN (re_nat 0)) (ras_cons (re_ofN (re_nat 1)) (ras_cons (re_ofN (re_callp1 (ip := 2) rfl (re_pow (a := 10) (b := 9) (c := 1000000000) (by decide +kernel) (by decide +kernel)))) (ras_cons (re_ofN (re_callp1 (ip := 2) rfl (re_pow (a := 10) (b := 30) (c := 1000000000000000000000000000000) (by decide +kernel) (by decide +kernel)))) (ras_cons (re_neg (re_int 1)) ras_nil))))))) (fun (size_3 : Int) => rg_name (i := 3) (show 3 < 21 by decide) rfl) (fun (size_3 : Int) =>
  (rb_asg (ρ2 := fun (thing_4 : Ad) => [.scr ns, .own (enc (k_2 : Nat)), .pot, .own (enc (size_3 : Int)), .own (enc (thing_4 : Ad)), .any, .any, .any, .any, .any, .any, .any, .any, .any, .any, .any, .any, .any, .any, .any, .any]) (re_callp0 (ip := 2) rfl ) (fun (thing_4 : Ad) => rg_name (i := 4) (show 4 < 21 by decide) rfl) (fun (thing_4 : Ad) =>
  (rb_par3 (ρ2 := fun (undone_5 : Er) (few_6 : Er) (numbers_7 : Er) => [.scr ns, .own (enc (k_2 : Nat)), .pot, .own (enc (size_3 : Int)), .own (enc (thing_4 : Ad)), .any, .any, .own (enc (undone_5 : Er)), .own (enc (few_6 : Er)), .own (enc (numbers_7 : Er)), .any, .any, .any, .any, .any, .any, .any, .any, .any, .any, .any]) (re_mkE (re_ad (re_v (i := 3) (a := (size_3 : Int)) rfl))) (re_mkE (re_ad (re_op ow_add (re_v (i := 3) (a := (size_3 : Int)) rfl) (re_ofN (re_nat 1))))) (re_mkE (re_v (i := 4) (a := (thing_4 : Ad)) rfl)) (show 7 < 21 by decide) (show 8 < 21 by decide) (show 9 < 21 by decide) (fun _ _ _ => rfl) (fun (undone_5 : Er) (few_6 : Er) (numbers_7 : Er) =>
  (rb_par3 (ρ2 := fun (town_8 : Er) (some_9 : Er) (one_10 : Er) => [.scr ns, .own (enc (k_2 : Nat)), .pot, .own (enc (size_3 : Int)), .own (enc (thing_4 : Ad)), .any, .any, .own (enc (undone_5 : Er)), .own (enc (few_6 : Er)), .own (enc (numbers_7 : Er)), .own (enc (town_8 : Er)), .own (enc (some_9 : Er)), .own (enc (one_10 : Er)), .any, .any, .any, .any, .any, .any, .any, .any]) (re_mkE (re_v (i := 4) (a := (thing_4 : Ad)) rfl)) (re_mkE (re_ad (re_v (i := 3) (a := (size_3 : Int)) rfl))) (re_mkE (re_v (i := 4) (a := (thing_4 : Ad)) rfl)) (show 10 < 21 by decide) (show 11 < 21 by decide) (show 12 < 21 by decide) (fun _ _ _ => rfl) (fun (town_8 : Er) (some_9 : Er) (one_10 : Er) =>
  (rb_par3 (ρ2 := fun (text_11 : Er) (line_12 : Er) (early_13 : Er) => [.scr ns, .own (enc (k_2 : Nat)), .pot, .own (enc (size_3 : Int)), .own (enc (thing_4 : Ad)), .any, .any, .own (enc (undone_5 : Er)), .own (enc (few_6 : Er)), .own (enc (numbers_7 : Er)), .own (enc (town_8 : Er)), .own (enc (some_9 : Er)), .own (enc (one_10 : Er)), .own (enc (text_11 : Er)), .own (enc (line_12 : Er)), .own (enc (early_13 : Er)), .any, .any, .any, .any, .any]) (re_mkE (re_ad (re_op ow_add (re_v (i := 3) (a := (size_3 : Int)) rfl) (re_ofN (re_nat 2))))) (re_mkE (re_v (i := 4) (a := (thing_4 : Ad)) rfl)) (re_mkE (re_ad (re_op ow_add (re_v (i := 3) (a := (size_3 : Int)) rfl) (re_ofN (re_nat 3))))) (show 13 < 21 by decide) (show 14 < 21 by decide) (show 15 < 21 by decide) (fun _ _ _ => rfl) (fun (text_11 : Er) (line_12 : Er) (early_13 : Er) =>
  (rb_par3 (ρ2 := fun (bad_14 : Er) (hand_15 : Er) (bit_16 : Er) => [.scr ns, .own (enc (k_2 : Nat)), .pot, .own (enc (size_3 : Int)), .own (enc (thing_4 : Ad)), .any, .any, .own (enc (undone_5 : Er)), .own (enc (few_6 : Er)), .own (enc (numbers_7 : Er)), .own (enc (town_8 : Er)), .own (enc (some_9 : Er)), .own (enc (one_10 : Er)), .own (enc (text_11 : Er)), .own (enc (line_12 : Er)), .own (enc (early_13 : Er)), .own (enc (bad_14 : Er)), .own (enc (hand_15 : Er)), .own (enc (bit_16 : Er)), .any, .any]) (re_mkE (re_ad (re_op ow_add (re_v (i := 3) (a := (size_3 : Int)) rfl) (re_ofN (re_nat 4))))) (re_mkE (re_v (i := 4) (a := (thing_4 : Ad)) rfl)) (re_mkE (re_v (i := 4) (a := (thing_4 : Ad)) rfl)) (show 16 < 21 by decide) (show 17 < 21 by decide) (show 18 < 21 by decide) (fun _ _ _ => rfl) (fun (bad_14 : Er) (hand_15 : Er) (bit_16 : Er) =>
  (rb_par (ρ2 := fun (letter_17 : Er) (tree_18 : Er) => [.scr ns, .own (enc (k_2 : Nat)), .pot, .own (enc (size_3 : Int)), .own (enc (thing_4 : Ad)), .any, .any, .own (enc (undone_5 : Er)), .own (enc (few_6 : Er)), .own (enc (numbers_7 : Er)), .own (enc (town_8 : Er)), .own (enc (some_9 : Er)), .own (enc (one_10 : Er)), .own (enc (text_11 : Er)), .own (enc (line_12 : Er)), .own (enc (early_13 : Er)), .own (enc (bad_14 : Er)), .own (enc (hand_15 : Er)), .own (enc (bit_16 : Er)), .own (enc (letter_17 : Er)), .own (enc (tree_18 : Er))]) (re_mkE (re_ad (re_op ow_add (re_v (i := 3) (a := (size_3 : Int)) rfl) (re_ofN (re_nat 5))))) (re_mkE (re_v (i := 4) (a := (thing_4 : Ad)) rfl)) (show 19 < 21 by decide) (show 20 < 21 by decide) (by decide) (fun _ _ => rfl) (fun (letter_17 : Er) (tree_18 : Er) =>
  (rb_asg (ρ2 := fun (found_19 : (Lst Er)) => [.scr ns, .own (enc (k_2 : Nat)), .pot, .own (enc (size_3 : Int)), .own (enc (thing_4 : Ad)), .own (enc (found_19 : (Lst Er))), .any, .own (enc (undone_5 : Er)), .own (enc (few_6 : Er)), .own (enc (numbers_7 : Er)), .own (enc (town_8 : Er)), .own (enc (some_9 : Er)), .own (enc (one_10 : Er)), .own (enc (text_11 : Er)), .own (enc (line_12 : Er)), .own (enc (early_13 : Er)), .own (enc (bad_14 : Er)), .own (enc (hand_15 : Er)), .own (enc (bit_16 : Er)), .own (enc (letter_17 : Er)), .own (enc (tree_18 : Er))]) (re_lst (ras_cons (re_v (i := 7) (a := (undone_5 : Er)) rfl) (ras_cons (re_v (i := 8) (a := (few_6 : Er)) rfl) (ras_cons (re_v (i := 9) (a := (numbers_7 : Er)) rfl) (ras_cons (re_v (i := 10) (a := (town_8 : Er)) rfl) (ras_cons (re_v (i := 11) (a := (some_9 : Er)) rfl) (ras_cons (re_v (i := 12) (a := (one_10 : Er)) rfl) (ras_cons (re_v (i := 13) (a := (text_11 : Er)) rfl) (ras_cons (re_v (i := 14) (a := (line_12 : Er)) rfl) (ras_cons (re_v (i := 15) (a := (early_13 : Er)) rfl) ras_nil)))))))))) (fun (found_19 : (Lst Er)) => rg_name (i := 5) (show 5 < 21 by decide) rfl) (fun (found_19 : (Lst Er)) =>
  (rb_asg (ρ2 := fun (found_20 : (Lst Er)) => [.scr ns, .own (enc (k_2 : Nat)), .pot, .own (enc (size_3 : Int)), .own (enc (thing_4 : Ad)), .own (enc (found_20 : (Lst Er))), .any, .own (enc (undone_5 : Er)), .own (enc (few_6 : Er)), .own (enc (numbers_7 : Er)), .own (enc (town_8 : Er)), .own (enc (some_9 : Er)), .own (enc (one_10 : Er)), .own (enc (text_11 : Er)), .own (enc (line_12 : Er)), .own (enc (early_13 : Er)), .own (enc (bad_14 : Er)), .own (enc (hand_15 : Er)), .own (enc (bit_16 : Er)), .own (enc (letter_17 : Er)), .own (enc (tree_18 : Er))]) (re_op ow_catL (re_own (i := 5) (a := (found_19 : (Lst Er))) rfl) (re_lst (ras_cons re_mkE0 (ras_cons (re_v (i := 16) (a := (bad_14 : Er)) rfl) (ras_cons (re_v (i := 17) (a := (hand_15 : Er)) rfl) (ras_cons (re_v (i := 18) (a := (bit_16 : Er)) rfl) (ras_cons (re_v (i := 19) (a := (letter_17 : Er)) rfl) (ras_cons (re_v (i := 20) (a := (tree_18 : Er)) rfl) (ras_cons re_mkE0 (ras_cons re_mkE0 ras_nil)))))))))) (fun (found_20 : (Lst Er)) => rg_name (i := 5) (show 5 < 21 by decide) rfl) (fun (found_20 : (Lst Er)) =>
  (rb_if (ρ1 := fun (s_21 : Unit) => [.scr ns, .own (enc (k_2 : Nat)), .pot, .own (enc (size_3 : Int)), .own (enc (thing_4 : Ad)), .own (enc (found_20 : (Lst Er))), .any, .own (enc (undone_5 : Er)), .own (enc (few_6 : Er)), .own (enc (numbers_7 : Er)), .own (enc (town_8 : Er)), .own (enc (some_9 : Er)), .own (enc (one_10 : Er)), .own (enc (text_11 : Er)), .own (enc (line_12 : Er)), .own (enc (early_13 : Er)), .own (enc (bad_14 : Er)), .own (enc (hand_15 : Er)), .own (enc (bit_16 : Er)), .own (enc (letter_17 : Er)), .own (enc (tree_18 : Er))]) (rt_not (rt_val (re_call1 (re_own (i := 5) (a := (found_20 : (Lst Er))) rfl))))
  (rb_ret (re_bool false))
  (rb_end (s := (() : Unit)) ⟨.eq _, ⟨.eq _, ⟨.eq _, ⟨.eq _, ⟨.eq _, ⟨.eq _, ⟨.any _, ⟨.eq _, ⟨.eq _, ⟨.eq _, ⟨.eq _, ⟨.eq _, ⟨.eq _, ⟨.eq _, ⟨.eq _, ⟨.eq _, ⟨.eq _, ⟨.eq _, ⟨.eq _, ⟨.eq _, ⟨.eq _, trivial⟩⟩⟩⟩⟩⟩⟩⟩⟩⟩⟩⟩⟩⟩⟩⟩⟩⟩⟩⟩⟩) (fun (s_21 : Unit) =>
  (rb_asg (ρ2 := fun (kept_22 : (Lst Ad)) => [.scr ns, .own (enc (k_2 : Nat)), .pot, .own (enc (size_3 : Int)), .own (enc (thing_4 : Ad)), .own (enc (found_20 : (Lst Er))), .own (enc (kept_22 : (Lst Ad))), .own (enc (undone_5 : Er)), .own (enc (few_6 : Er)), .own (enc (numbers_7 : Er)), .own (enc (town_8 : Er)), .own (enc (some_9 : Er)), .own (enc (one_10 : Er)), .own (enc (text_11 : Er)), .own (enc (line_12 : Er)), .own (enc (early_13 : Er)), .own (enc (bad_14 : Er)), .own (enc (hand_15 : Er)), .own (enc (bit_16 : Er)), .own (enc (letter_17 : Er)), .own (enc (tree_18 : Er))]) (re_lst (ras_cons (re_ef (cs := ["NoInverse"]) (re_v (i := 7) (a := (undone_5 : Er)) rfl)) (ras_cons (re_ef (cs := ["TooFew"]) (re_v (i := 8) (a := (few_6 : Er)) rfl)) (ras_cons (re_ef (cs := ["NoText"]) (re_v (i := 13) (a := (text_11 : Er)) rfl)) (ras_cons (re_ef (cs := ["Early"]) (re_v (i := 15) (a := (early_13 : Er)) rfl)) (ras_cons (re_ef (cs := ["Bad"]) (re_v (i := 16) (a := (bad_14 : Er)) rfl)) (ras_cons (re_ef (cs := ["BadNumbers", "BadHouse", "BadRows", "NoNumber", "NoLine", "NoHand", "NoBit", "NoLetter", "NoTree"]) (re_v (i := 19) (a := (letter_17 : Er)) rfl)) ras_nil))))))) (fun (kept_22 : (Lst Ad)) => rg_name (i := 6) (show 6 < 21 by decide) rfl) (fun (kept_22 : (Lst Ad)) =>
  (rb_if (ρ1 := fun (s_23 : Unit) => [.scr ns, .own (enc (k_2 : Nat)), .pot, .own (enc (size_3 : Int)), .own (enc (thing_4 : Ad)), .own (enc (found_20 : (Lst Er))), .own (enc (kept_22 : (Lst Ad))), .own (enc (undone_5 : Er)), .own (enc (few_6 : Er)), .own (enc (numbers_7 : Er)), .own (enc (town_8 : Er)), .own (enc (some_9 : Er)), .own (enc (one_10 : Er)), .own (enc (text_11 : Er)), .own (enc (line_12 : Er)), .own (enc (early_13 : Er)), .own (enc (bad_14 : Er)), .own (enc (hand_15 : Er)), .own (enc (bit_16 : Er)), .own (enc (letter_17 : Er)), .own (enc (tree_18 : Er))]) (rt_test (re_op ow_neS (re_reprLA (re_own (i := 6) (a := (kept_22 : (Lst Ad))) rfl)) (re_reprLA (re_lst (ras_cons (re_ad (re_v (i := 3) (a := (size_3 : Int)) rfl)) (ras_cons (re_ad (re_op ow_add (re_v (i := 3) (a := (size_3 : Int)) rfl) (re_ofN (re_nat 1)))) (ras_cons (re_ad (re_op ow_add (re_v (i := 3) (a := (size_3 : Int)) rfl) (re_ofN (re_nat 2)))) (ras_cons (re_ad (re_op ow_add (re_v (i := 3) (a := (size_3 : Int)) rfl) (re_ofN (re_nat 3)))) (ras_cons (re_ad (re_op ow_add (re_v (i := 3) (a := (size_3 : Int)) rfl) (re_ofN (re_nat 4)))) (ras_cons (re_ad (re_op ow_add (re_v (i := 3) (a := (size_3 : Int)) rfl) (re_ofN (re_nat 5)))) ras_nil))))))))))
  (rb_ret (re_bool false))
  (rb_end (s := (() : Unit)) ⟨.eq _, ⟨.eq _, ⟨.eq _, ⟨.eq _, ⟨.eq _, ⟨.eq _, ⟨.eq _, ⟨.eq _, ⟨.eq _, ⟨.eq _, ⟨.eq _, ⟨.eq _, ⟨.eq _, ⟨.eq _, ⟨.eq _, ⟨.eq _, ⟨.eq _, ⟨.eq _, ⟨.eq _, ⟨.eq _, ⟨.eq _, trivial⟩⟩⟩⟩⟩⟩⟩⟩⟩⟩⟩⟩⟩⟩⟩⟩⟩⟩⟩⟩⟩) (fun (s_23 : Unit) =>
  (rb_asg (ρ2 := fun (kept_24 : (Lst Ad)) => [.scr ns, .own (enc (k_2 : Nat)), .pot, .own (enc (size_3 : Int)), .own (enc (thing_4 : Ad)), .own (enc (found_20 : (Lst Er))), .own (enc (kept_24 : (Lst Ad))), .own (enc (undone_5 : Er)), .own (enc (few_6 : Er)), .own (enc (numbers_7 : Er)), .own (enc (town_8 : Er)), .own (enc (some_9 : Er)), .own (enc (one_10 : Er)), .own (enc (text_11 : Er)), .own (enc (line_12 : Er)), .own (enc (early_13 : Er)), .own (enc (bad_14 : Er)), .own (enc (hand_15 : Er)), .own (enc (bit_16 : Er)), .own (enc (letter_17 : Er)), .own (enc (tree_18 : Er))]) (re_lst (ras_cons (re_ef (cs := ["BadNumbers", "BadHouse", "BadRows", "NoNumber", "NoLine", "NoHand", "NoBit", "NoLetter", "NoTree"]) (re_v (i := 9) (a := (numbers_7 : Er)) rfl)) (ras_cons (re_ef (cs := ["BadNumbers", "BadHouse", "BadRows", "NoNumber", "NoLine", "NoHand", "NoBit", "NoLetter", "NoTree"]) (re_v (i := 10) (a := (town_8 : Er)) rfl)) (ras_cons (re_ef (cs := ["BadNumbers", "BadHouse", "BadRows", "NoNumber", "NoLine", "NoHand", "NoBit", "NoLetter", "NoTree"]) (re_v (i := 12) (a := (one_10 : Er)) rfl)) (ras_cons (re_ef (cs := ["BadNumbers", "BadHouse", "BadRows", "NoNumber", "NoLine", "NoHand", "NoBit", "NoLetter", "NoTree"]) (re_v (i := 14) (a := (line_12 : Er)) rfl)) (ras_cons (re_ef (cs := ["BadNumbers", "BadHouse", "BadRows", "NoNumber", "NoLine", "NoHand", "NoBit", "NoLetter", "NoTree"]) (re_v (i := 17) (a := (hand_15 : Er)) rfl)) ras_nil)))))) (fun (kept_24 : (Lst Ad)) => rg_name (i := 6) (show 6 < 21 by decide) rfl) (fun (kept_24 : (Lst Ad)) =>
  (rb_asg (ρ2 := fun (kept_25 : (Lst Ad)) => [.scr ns, .own (enc (k_2 : Nat)), .pot, .own (enc (size_3 : Int)), .own (enc (thing_4 : Ad)), .own (enc (found_20 : (Lst Er))), .own (enc (kept_25 : (Lst Ad))), .own (enc (undone_5 : Er)), .own (enc (few_6 : Er)), .own (enc (numbers_7 : Er)), .own (enc (town_8 : Er)), .own (enc (some_9 : Er)), .own (enc (one_10 : Er)), .own (enc (text_11 : Er)), .own (enc (line_12 : Er)), .own (enc (early_13 : Er)), .own (enc (bad_14 : Er)), .own (enc (hand_15 : Er)), .own (enc (bit_16 : Er)), .own (enc (letter_17 : Er)), .own (enc (tree_18 : Er))]) (re_op ow_catL (re_own (i := 6) (a := (kept_24 : (Lst Ad))) rfl) (re_lst (ras_cons (re_ef (cs := ["BadNumbers", "BadHouse", "BadRows", "NoNumber", "NoLine", "NoHand", "NoBit", "NoLetter", "NoTree"]) (re_v (i := 18) (a := (bit_16 : Er)) rfl)) (ras_cons (re_ef (cs := ["BadNumbers", "BadHouse", "BadRows", "NoNumber", "NoLine", "NoHand", "NoBit", "NoLetter", "NoTree"]) (re_v (i := 20) (a := (tree_18 : Er)) rfl)) (ras_cons (re_ef (cs := ["BadNumbers", "BadHouse", "BadRows", "NoNumber", "NoLine", "NoHand", "NoBit", "NoLetter", "NoTree"]) (re_v (i := 11) (a := (some_9 : Er)) rfl)) ras_nil))))) (fun (kept_25 : (Lst Ad)) => rg_name (i := 6) (show 6 < 21 by decide) rfl) (fun (kept_25 : (Lst Ad)) =>
  (rb_if (ρ1 := fun (s_26 : Unit) => [.scr ns, .own (enc (k_2 : Nat)), .pot, .own (enc (size_3 : Int)), .own (enc (thing_4 : Ad)), .own (enc (found_20 : (Lst Er))), .own (enc (kept_25 : (Lst Ad))), .own (enc (undone_5 : Er)), .own (enc (few_6 : Er)), .own (enc (numbers_7 : Er)), .own (enc (town_8 : Er)), .own (enc (some_9 : Er)), .own (enc (one_10 : Er)), .own (enc (text_11 : Er)), .own (enc (line_12 : Er)), .own (enc (early_13 : Er)), .own (enc (bad_14 : Er)), .own (enc (hand_15 : Er)), .own (enc (bit_16 : Er)), .own (enc (letter_17 : Er)), .own (enc (tree_18 : Er))]) (rt_test (re_op ow_neS (re_reprLA (re_own (i := 6) (a := (kept_25 : (Lst Ad))) rfl)) (re_reprLA (re_op ow_catL (re_op ow_repL (re_lst (ras_cons (re_v (i := 4) (a := (thing_4 : Ad)) rfl) ras_nil)) (re_ofN (re_nat 7))) (re_lst (ras_cons (re_ad (re_v (i := 3) (a := (size_3 : Int)) rfl)) ras_nil))))))
  (rb_ret (re_bool false))
  (rb_end (s := (() : Unit)) ⟨.eq _, ⟨.eq _, ⟨.eq _, ⟨.eq _, ⟨.eq _, ⟨.eq _, ⟨.eq _, ⟨.eq _, ⟨.eq _, ⟨.eq _, ⟨.eq _, ⟨.eq _, ⟨.eq _, ⟨.eq _, ⟨.eq _, ⟨.eq _, ⟨.eq _, ⟨.eq _, ⟨.eq _, ⟨.eq _, ⟨.eq _, trivial⟩⟩⟩⟩⟩⟩⟩⟩⟩⟩⟩⟩⟩⟩⟩⟩⟩⟩⟩⟩⟩) (fun (s_26 : Unit) =>
  (rb_end (s := (() : Unit)) ⟨.eq _, ⟨.any _, ⟨.any _, ⟨.any _, ⟨.any _, ⟨.any _, ⟨.any _, ⟨.any _, ⟨.any _, ⟨.any _, ⟨.any _, ⟨.any _, ⟨.any _, ⟨.any _, ⟨.any _, ⟨.any _, ⟨.any _, ⟨.any _, ⟨.any _, ⟨.any _, ⟨.any _, trivial⟩⟩⟩⟩⟩⟩⟩⟩⟩⟩⟩⟩⟩⟩⟩⟩⟩⟩⟩⟩⟩))))))))))))))))))))))))))))))) (fun _ => trivial) (fun _ => trivial))) (fun (s_1 : Unit) =>
  (rb_ret (re_bool true))))) h win⟩
end
end Bf
namespace Bf
open PySem PySem.Spec PyProof.Rows L2
def dd0 : He.DefD := ⟨("_law_pot", none), "_law_pot", "_law_pot", defArgs sPot, defBody sPot, defScope sPot, [], []⟩
def dd1 : He.DefD := ⟨("_law_take", none), "_law_take", "_law_take", defArgs sTake, defBody sTake, defScope sTake, [], []⟩
def dd2 : He.DefD := ⟨("_law_of", none), "_law_of", "_law_of", defArgs sOf, defBody sOf, defScope sOf, [], []⟩
def dd3 : He.DefD := ⟨("_law_odd", none), "_law_odd", "_law_odd", defArgs sOdd, defBody sOdd, defScope sOdd, [], []⟩
def dd4 : He.DefD := ⟨("_law_under", none), "_law_under", "_law_under", defArgs sUnd, defBody sUnd, defScope sUnd, [], []⟩
def dd5 : He.DefD := ⟨("_law_families_right", none), "_law_families_right", "_law_families_right", defArgs sFam, defBody sFam, defScope sFam, [], []⟩
def dd6 : He.DefD := ⟨("law", none), "law", "law", defArgs sLaw, defBody sLaw, defScope sLaw, [], []⟩
def dd7 : He.DefD := ⟨("NoInverse", some "__init__"), "__init__", "NoInverse.__init__", defArgs sIniNoInverse, defBody sIniNoInverse, defScope sIniNoInverse, [], []⟩
def dd8 : He.DefD := ⟨("TooFew", some "__init__"), "__init__", "TooFew.__init__", defArgs sIniTooFew, defBody sIniTooFew, defScope sIniTooFew, [], []⟩
def dd9 : He.DefD := ⟨("BadNumbers", some "__init__"), "__init__", "BadNumbers.__init__", defArgs sIniBadNumbers, defBody sIniBadNumbers, defScope sIniBadNumbers, [], []⟩
def dd10 : He.DefD := ⟨("BadHouse", some "__init__"), "__init__", "BadHouse.__init__", defArgs sIniBadHouse, defBody sIniBadHouse, defScope sIniBadHouse, [], []⟩
def dd11 : He.DefD := ⟨("BadRows", some "__init__"), "__init__", "BadRows.__init__", defArgs sIniBadRows, defBody sIniBadRows, defScope sIniBadRows, [], []⟩
def dd12 : He.DefD := ⟨("NoNumber", some "__init__"), "__init__", "NoNumber.__init__", defArgs sIniNoNumber, defBody sIniNoNumber, defScope sIniNoNumber, [], []⟩
def dd13 : He.DefD := ⟨("NoText", some "__init__"), "__init__", "NoText.__init__", defArgs sIniNoText, defBody sIniNoText, defScope sIniNoText, [], []⟩
def dd14 : He.DefD := ⟨("NoLine", some "__init__"), "__init__", "NoLine.__init__", defArgs sIniNoLine, defBody sIniNoLine, defScope sIniNoLine, [], []⟩
def dd15 : He.DefD := ⟨("Early", some "__init__"), "__init__", "Early.__init__", defArgs sIniEarly, defBody sIniEarly, defScope sIniEarly, [], []⟩
def dd16 : He.DefD := ⟨("Bad", some "__init__"), "__init__", "Bad.__init__", defArgs sIniBad, defBody sIniBad, defScope sIniBad, [], []⟩
def dd17 : He.DefD := ⟨("NoHand", some "__init__"), "__init__", "NoHand.__init__", defArgs sIniNoHand, defBody sIniNoHand, defScope sIniNoHand, [], []⟩
def dd18 : He.DefD := ⟨("NoBit", some "__init__"), "__init__", "NoBit.__init__", defArgs sIniNoBit, defBody sIniNoBit, defScope sIniNoBit, [], []⟩
def dd19 : He.DefD := ⟨("NoLetter", some "__init__"), "__init__", "NoLetter.__init__", defArgs sIniNoLetter, defBody sIniNoLetter, defScope sIniNoLetter, [], []⟩
def dd20 : He.DefD := ⟨("NoTree", some "__init__"), "__init__", "NoTree.__init__", defArgs sIniNoTree, defBody sIniNoTree, defScope sIniNoTree, [], []⟩
def fnL : List He.DefD := [dd0, dd1, dd2, dd3, dd4, dd5, dd6, dd7, dd8, dd9, dd10, dd11, dd12, dd13, dd14, dd15, dd16, dd17, dd18, dd19, dd20]
def faL : List He.Fa := ((.glo "_law_pot") : He.Fa) :: ((.glo "_law_take") : He.Fa) :: ((.glo "_law_of") : He.Fa) :: ((.glo "_law_odd") : He.Fa) :: ((.glo "_law_under") : He.Fa) :: ((.glo "_law_families_right") : He.Fa) :: ((.glo "law") : He.Fa) :: ((.free "len") : He.Fa) :: ((.free "tuple") : He.Fa) :: ((.free "list") : He.Fa) :: ((.free "range") : He.Fa) :: ((.free "min") : He.Fa) :: ((.free "max") : He.Fa) :: ((.free "abs") : He.Fa) :: ((.free "int") : He.Fa) :: ((.free "all") : He.Fa) :: ((.free "any") : He.Fa) :: ((.free "zip") : He.Fa) :: ((.free "enumerate") : He.Fa) :: ((.free "reversed") : He.Fa) :: ((.free "repr") : He.Fa) :: ((.free "sorted") : He.Fa) :: ((.free "sum") : He.Fa) :: ((.free "set") : He.Fa) :: ((.free "isinstance") : He.Fa) :: ((.free "bool") : He.Fa) :: ((.free "ValueError") : He.Fa) :: ((.free "LookupError") : He.Fa) :: ((.glo "NoInverse") : He.Fa) :: ((.glo "TooFew") : He.Fa) :: ((.glo "BadNumbers") : He.Fa) :: ((.glo "BadHouse") : He.Fa) :: ((.glo "BadRows") : He.Fa) :: ((.glo "NoNumber") : He.Fa) :: ((.glo "NoText") : He.Fa) :: ((.glo "NoLine") : He.Fa) :: ((.glo "Early") : He.Fa) :: ((.glo "Busy") : He.Fa) :: ((.glo "Bad") : He.Fa) :: ((.glo "NoHand") : He.Fa) :: ((.glo "NoBit") : He.Fa) :: ((.glo "NoLetter") : He.Fa) :: ((.glo "NoTree") : He.Fa) :: ((.glo "Ended") : He.Fa) :: ((.glo "Idle") : He.Fa) :: ((.glo "NotSo") : He.Fa) :: ((.glo "Gone") : He.Fa) :: []
def tfL : List He.Defn := []
def exL (K : PySem.W.Frag) : Bool := (true && (mk0B K (He.ga K "Idle") && (mk0B K (He.ga K "Ended") && (errLB K (He.ga K "NoTree") (He.ma K (He.ga K "NoTree") "__init__") "thing" && (errLB K (He.ga K "NoLetter") (He.ma K (He.ga K "NoLetter") "__init__") "thing" && (errLB K (He.ga K "NoBit") (He.ma K (He.ga K "NoBit") "__init__") "thing" && (errLB K (He.ga K "NoHand") (He.ma K (He.ga K "NoHand") "__init__") "thing" && (errB K (He.ga K "Bad") (He.ma K (He.ga K "Bad") "__init__") "hand" && (mk0B K (He.ga K "Busy") && (errB K (He.ga K "Early") (He.ma K (He.ga K "Early") "__init__") "beats" && (errB K (He.ga K "NoLine") (He.ma K (He.ga K "NoLine") "__init__") "thing" && (errB K (He.ga K "NoText") (He.ma K (He.ga K "NoText") "__init__") "row" && (errB K (He.ga K "NoNumber") (He.ma K (He.ga K "NoNumber") "__init__") "thing" && (errB K (He.ga K "BadRows") (He.ma K (He.ga K "BadRows") "__init__") "thing" && (errB K (He.ga K "BadHouse") (He.ma K (He.ga K "BadHouse") "__init__") "thing" && (errB K (He.ga K "BadNumbers") (He.ma K (He.ga K "BadNumbers") "__init__") "thing" && (errB K (He.ga K "TooFew") (He.ma K (He.ga K "TooFew") "__init__") "many" && (errB K (He.ga K "NoInverse") (He.ma K (He.ga K "NoInverse") "__init__") "number" && errTB K errCs errOwn errBlt errFl errSup)))))))))))))))))) && true
abbrev RR : PySem.W.OpenRow := PySem.W.OpenLaw.row PySem.Challenge.rw_beatferry_k64_refusals_by_themselves
abbrev hkL : PySem.W.Hook := He.hookX 4 faL fnL [] tfL exL
def obL (s : PySem.W.SharedT) : He.AlX := He.obsX 4 faL fnL [] tfL exL (HandSHeadRun.getT s)
theorem obL_eq (s : PySem.W.SharedT) : obL s = hkL.obs s.abs := He.obsX_eq (HandSHeadRun.getT_eq s)
theorem runL (w : World) : HandSHeadRun.RunEq RR (PySem.W.view RR.prog [27]) hkL obL 20000 ["NotSo", "Gone", "NoInverse", "TooFew", "BadNumbers", "BadHouse", "BadRows", "NoNumber", "NoText", "NoLine", "Early", "Busy", "Bad", "NoHand", "NoBit", "NoLetter", "NoTree", "Ended", "Idle", "_law_pot", "_law_take", "_law_of", "_law_odd", "_law_under", "_law_families_right"] w := by
  intro os
  kernel_rfl
end Bf
namespace Bf
open PySem PySem.Spec PyProof.Rows L2 LamX NdefX
theorem strl (a b : Str) : (a ++ b).length = a.length + b.length := by
  show (a.cps ++ b.cps).size = _
  exact Array.size_append
theorem shown_t {d : PyData} : (PyData.tuple [d]).shown = Str.ofString "(" ++ d.shown ++ Str.ofString ",)" := by simp [PyData.shown, PyData.shownAll, tupleText, Str.join]
theorem shown_l {d : PyData} : (PyData.list [d]).shown = Str.ofString "[" ++ Str.ofString "" ++ d.shown ++ Str.ofString "]" := by
  simp [PyData.shown, PyData.shownAll, listText, textFrom]
theorem shown_d {d : PyData} : (PyData.dict [(.str "a", d)]).shown = Str.ofString "{" ++ (reprText (Str.ofString "a") ++ Str.ofString ": " ++ d.shown) ++ Str.ofString "}" := by
  simp [PyData.shown, PyData.shownKv, dictText, Str.join]
theorem txt_len (s : String) : (Str.ofString s).length = s.toList.length := by
  show (Str.ofString s).cps.size = _
  rw [← Array.length_toList, signs_ofString, List.length_map]
theorem int_len {i : Int} {k : Nat} (hk : 1 ≤ k) (h : i.natAbs < 10 ^ k) : (PyData.int i).shown.length ≤ k + 1 := by
  show (Str.ofString (toString i)).length ≤ k + 1
  rw [txt_len]
  cases i with
  | ofNat n =>
    have e : toString (Int.ofNat n) = Nat.repr n := rfl
    rw [e]
    have h2 := toDigits_len_pow (b := 10) (k := k) (n := n) (by decide) hk h
    have : (Nat.repr n).toList = Nat.toDigits 10 n := by simp [Nat.repr]
    rw [this]
    omega
  | negSucc n =>
    have e : toString (Int.negSucc n) = "-" ++ Nat.repr (n + 1) := rfl
    rw [e]
    have h2 := toDigits_len_pow (b := 10) (k := k) (n := n + 1) (by decide) hk h
    have : ("-" ++ Nat.repr (n + 1)).toList = '-' :: Nat.toDigits 10 (n + 1) := by simp [Nat.repr]
    rw [this, List.length_cons]
    omega
theorem log_ltI {i : Int} {k : Nat} (h : i.natAbs < 2 ^ k) (hk : 0 < k) : i.natAbs.log2 < k := by
  by_cases e : i.natAbs = 0
  · rw [e]
    exact hk
  · exact (Nat.log2_lt e).mpr h
structure Ok4 (i : Nat) (d : PyData) : Prop where
  sh : d.showable = true
  de : d.depth ≤ 2 + i
  le : d.shown.length ≤ 40 + 10 * i
theorem ok4_int {i : Int} (h : i.natAbs < 10 ^ 35) : Ok4 0 (.int i) := by
  have h2 : (10 : Nat) ^ 35 < 2 ^ 1920 := by decide +kernel
  have h3 := int_len (k := 35) (by decide) h
  refine ⟨?_, by show 0 ≤ 2 + 0; decide, by omega⟩
  show decide (i.natAbs.log2 < 1920) = true
  exact decide_eq_true (log_ltI (Nat.lt_trans h h2) (by decide))
theorem ok4_t {i : Nat} {d : PyData} (h : Ok4 i d) : Ok4 (i + 1) (.tuple [d]) := by
  have := h.de
  have := h.le
  have h1 : (Str.ofString "(").length = 1 := by decide +kernel
  have h2 : (Str.ofString ",)").length = 2 := by decide +kernel
  refine ⟨?_, ?_, ?_⟩
  · simp [PyData.showable, PyData.showableAll, h.sh]
  · simp only [PyData.depth, PyData.depthAll]; omega
  · rw [shown_t, strl, strl]; omega
theorem ok4_l {i : Nat} {d : PyData} (h : Ok4 i d) : Ok4 (i + 1) (.list [d]) := by
  have := h.de
  have := h.le
  have h1 : (Str.ofString "[").length = 1 := by decide +kernel
  have h2 : (Str.ofString "]").length = 1 := by decide +kernel
  have h3 : (Str.ofString "").length = 0 := by decide +kernel
  refine ⟨?_, ?_, ?_⟩
  · simp [PyData.showable, PyData.showableAll, h.sh]
  · simp only [PyData.depth, PyData.depthAll]; omega
  · rw [shown_l, strl, strl, strl]; omega
theorem ok4_d {i : Nat} {d : PyData} (h : Ok4 i d) : Ok4 (i + 1) (.dict [(.str "a", d)]) := by
  have := h.de
  have := h.le
  have h1 : (Str.ofString "{").length = 1 := by decide +kernel
  have h2 : (Str.ofString "}").length = 1 := by decide +kernel
  have h3 : (Str.ofString ": ").length = 2 := by decide +kernel
  have h4 : (reprText (Str.ofString "a")).length = 3 := by decide +kernel
  refine ⟨?_, ?_, ?_⟩
  · simp [PyData.showable, PyData.showableKv, h.sh]
  · simp only [PyData.depth, PyData.depthKv]; omega
  · rw [shown_d, strl, strl, strl, strl]; omega
def oddL : List PyData := [.none, .bool true, .bool false, .str "", .str "1", .str "x", .tuple [], .list [], .dict [], .tuple [.int 0], .list [.int 0], .int (-1), .int 1000000000, .int 1000000000000000000000000000000, .tuple [.int 1, .int 2], .str "tell"]
def ok4B (d : PyData) : Bool := d.showable && decide (d.depth ≤ 2 + 0) && decide (d.shown.length ≤ 40 + 10 * 0)
theorem odd_b : ∀ d ∈ oddL, Ok4 0 d := by
  intro d h
  have : oddL.all ok4B = true := by decide +kernel
  have := List.all_eq_true.mp this d h
  unfold ok4B at this
  simp only [Bool.and_eq_true, decide_eq_true_eq] at this
  exact ⟨this.1.1, this.1.2, this.2⟩
theorem four_in : ∀ r, r < 4 → ∃ a, ([0, 0, 1, 20] : List Nat)[r]? = some a ∧ a ≤ 20 := by
  intro r h
  rcases r with _ | _ | _ | _ | r
  case succ => omega
  all_goals exact ⟨_, rfl, by decide⟩
theorem odd_w {c : Nat} {P : Ad → Nat → Prop} (hc : c ≤ 90000) (p : ∀ d c' i, Ok4 i d → i ≤ 20 → c' ≤ c + 22 → P ⟨d⟩ c') : oddW c P := by
  rw [oddW_eq]
  unfold oddB
  have h24 : sizeLine = 16777216 := rfl
  refine ⟨by show 0 ≤ sizeLine; omega, by show 0 ≤ sizeLine; omega, by show 1 ≤ sizeLine; omega, by show 1 ≤ sizeLine; omega, by show 16 ≤ sizeLine; omega, ⟨by decide, by decide, by show c < 100000; omega⟩, fun x hx => ?_⟩
  have hx : x ∈ oddL.map Ad.mk := hx
  obtain ⟨d0, hd0, rfl⟩ := List.mem_map.mp hx
  have b0 := odd_b d0 hd0
  refine ⟨by show 4 ≤ sizeLine; omega, ⟨by decide, by decide, by show c + 1 < 100000; omega⟩, fun r hr => ?_⟩
  obtain ⟨a, ea, ha⟩ := four_in r hr
  refine ⟨a, ea, by show a < 4611686018427387904; omega, ?_⟩
  refine seq_for (xs := List.range a) (fun i (s : Ad) n' => n' = c + 2 + i ∧ Ok4 i s.d) ⟨rfl, b0⟩ ?_ ?_
  · rintro i j s n' e ⟨rfl, hs⟩ Q q
    have hi := (List.getElem?_eq_some_iff.mp e).1
    rw [List.length_range] at hi
    refine ⟨by show 1 ≤ sizeLine; omega, by show 1 ≤ sizeLine; omega, by show 3 ≤ sizeLine; omega, ⟨by decide, by decide, by show c + 2 + i < 100000; omega⟩, fun r hr => ?_⟩
    rcases r with _ | _ | _ | r
    · exact ⟨_, rfl, q _ _ ⟨by omega, ok4_t hs⟩⟩
    · exact ⟨_, rfl, q _ _ ⟨by omega, ok4_l hs⟩⟩
    · exact ⟨_, rfl, q _ _ ⟨by omega, ok4_d hs⟩⟩
    · omega
  · rintro s n' ⟨rfl, hs⟩
    rw [List.length_range] at hs ⊢
    exact p s.d _ a hs ha (by omega)
/-- a short list of such things is shown -/
theorem sh_list {xs : List PyData} (hl : xs.length ≤ 20) (h : ∀ d ∈ xs, ∃ i, Ok4 i d ∧ i ≤ 20) : ShOk (.list xs) := by
  have key : ∀ ys : List PyData, (∀ d ∈ ys, ∃ i, Ok4 i d ∧ i ≤ 20) → PyData.showableAll ys = true ∧ PyData.depthAll ys ≤ 22 ∧ ((PyData.shownAll ys).map (·.length)).sum ≤ 240 * ys.length := by
    intro ys
    induction ys with
    | nil => intro _; exact ⟨rfl, Nat.zero_le _, Nat.zero_le _⟩
    | cons y ys ih =>
      intro h
      obtain ⟨h1, h2, h3⟩ := ih fun d hd => h d (List.mem_cons_of_mem _ hd)
      obtain ⟨i, k, hi⟩ := h y List.mem_cons_self
      have k2 := k.de
      have k3 := k.le
      refine ⟨?_, ?_, ?_⟩
      · rw [PyData.showableAll, k.sh, h1]; rfl
      · rw [PyData.depthAll]; omega
      · rw [PyData.shownAll, List.map_cons, List.sum_cons, List.length_cons]; omega
  obtain ⟨h1, h2, h3⟩ := key xs h
  have h24 : sizeLine = 16777216 := rfl
  refine ⟨by rw [PyData.showable]; exact h1, by rw [PyData.depth]; omega, ?_⟩
  have h4 := listText_len_le (PyData.shownAll xs)
  rw [PyData.shownAll_length] at h4
  rw [PyData.shown]
  omega
/-- the classes an error is under, by number -/
def bsF (cn : Str) : List Bool := [errSup cn "NoInverse", errSup cn "TooFew", errSup cn "BadNumbers", errSup cn "BadHouse"] ++ [errSup cn "BadRows", errSup cn "NoNumber", errSup cn "NoText", errSup cn "NoLine"] ++ [errSup cn "Early", errSup cn "Busy", errSup cn "Bad", errSup cn "NoHand"] ++ [errSup cn "NoBit", errSup cn "NoLetter", errSup cn "NoTree", errSup cn "Ended"] ++ [errSup cn "Idle"]
def unF (cn : Str) : List Nat := ((enW (bsF cn)).filter fun x : Nat × Bool => x.2).map fun x : Nat × Bool => x.1
theorem und_w {e : Er} {c : Nat} {P : Lst Nat → Nat → Prop} (hm : e.cn ∈ errCs) (p : P ⟨unF e.cn⟩ c) : undW e c P := by
  rw [undW_eq]
  have h24 : sizeLine = 16777216 := rfl
  refine ⟨hm, hm, hm, hm, by show 4 ≤ sizeLine; omega, hm, hm, hm, hm, by show 4 ≤ sizeLine; omega, by show 8 ≤ sizeLine; omega, hm, hm, hm, hm, by show 4 ≤ sizeLine; omega, by show 12 ≤ sizeLine; omega, hm, hm, hm, hm, by show 4 ≤ sizeLine; omega, by show 16 ≤ sizeLine; omega, hm, by show 16 < sizeLine; omega, by show 17 ≤ sizeLine; omega, ?_⟩
  exact lcW_both (xs := enW (bsF e.cn)) (t := fun x : Nat × Bool => x.2) (g := fun x : Nat × Bool => x.1) (fun i a n e Q q => q) (fun i a n e _ Q q => q) p
def chE (i : Nat) (cn : Str) : Bool := decide (unF cn = [i]) && (errSup cn "NotSo" == decide (i < 11)) && (errSup cn "Gone" == decide (10 < i)) && (errSup cn "ValueError" == decide (i < 11)) && (errSup cn "LookupError" == decide (10 < i))
theorem chE_all : (enW errCs).all (fun x => chE x.1 x.2) = true := by decide +kernel
theorem fam_w {xs : Lst Er} {c : Nat} {P : Bool → Nat → Prop} (h : xs.l.map Er.cn = errCs) (p : P true c) : famW xs c P := by
  rw [famW_eq]
  have h24 : sizeLine = 16777216 := rfl
  unfold famB
  refine seq_for (xs := enW xs.l) (fun i s n' => n' = c) rfl ?_ ?_
  · rintro i ⟨j, e⟩ s n' ei rfl Q q
    obtain ⟨e1, e2⟩ := enAt ei
    have e1 : j = i := e1
    have e2 : xs.l[i]? = some e := e2
    subst e1
    have ec : errCs[j]? = some e.cn := by
      rw [← h, List.getElem?_map, e2]
      rfl
    have hm := List.mem_of_getElem? ec
    have k := List.all_eq_true.mp chE_all (j, e.cn) (List.mem_of_getElem? (enW_get ec))
    unfold chE at k
    simp only [Bool.and_eq_true, decide_eq_true_eq, beq_iff_eq] at k
    obtain ⟨⟨⟨⟨k1, k2⟩, k3⟩, k4⟩, k5⟩ := k
    have bb : ∀ b : Bool, (!decide (b = b)) = false := fun b => by rw [decide_eq_true rfl]; rfl
    refine or_b (x := false) (y := false) (fun Q z => und_w hm ?_) (fun _ Q z => or_w (x := false) (y := false) (fun Q z => ⟨hm, ?_⟩) (fun _ Q z => ⟨hm, ?_⟩) z) ?_
    · rw [k1]
      refine ⟨by show 1 ≤ sizeLine; omega, ⟨shp _, shp _⟩, ?_⟩
      show Q (!PyData.eqv (enc (⟨[j]⟩ : Lst Nat)) (enc (⟨[j]⟩ : Lst Nat))) n'
      rw [eqv_t rfl]
      exact z
    · show Q (!decide (errSup e.cn "NotSo" = decide (j < 11))) n'
      rw [k2, bb]
      exact z
    · show Q (!decide (errSup e.cn "Gone" = decide (10 < j))) n'
      rw [k3, bb]
      exact z
    refine seq_skip rfl ?_
    refine or_b (x := false) (y := false) (fun Q z => ⟨hm, ?_⟩) (fun _ Q z => ⟨hm, ?_⟩) ?_
    · show Q (!decide (errSup e.cn "ValueError" = decide (j < 11))) n'
      rw [k4, bb]
      exact z
    · show Q (!decide (errSup e.cn "LookupError" = decide (10 < j))) n'
      rw [k5, bb]
      exact z
    refine seq_skip rfl ?_
    exact q _ _ rfl
  · rintro s n' rfl
    exact p

end Bf
namespace Bf
open PySem PySem.Spec PyProof.Rows L2 LamX NdefX
theorem same_txt {α : Type} [DecidableEq α] {a b : α} (h : a = b) : (!decide (a = b)) = false := by rw [decide_eq_true h]; rfl
theorem law_win (ns : List Int) (hl : ns.length ≤ 63) : outW (lawB ns) 0 fun r _ => r = true := by
  have h24 : sizeLine = 16777216 := rfl
  have tm : ∀ cn : Str, cn ∈ (["BadNumbers", "BadHouse", "BadRows", "NoNumber", "NoLine", "NoHand", "NoBit", "NoLetter", "NoTree"] : List Str) → cn ∈ (["BadNumbers", "BadHouse", "BadRows", "NoNumber", "NoLine", "NoHand", "NoBit", "NoLetter", "NoTree"] : List Str) := fun _ h => h
  have t1 := tm "BadNumbers" (by decide)
  have t2 := tm "BadHouse" (by decide)
  have t3 := tm "BadRows" (by decide)
  have t4 := tm "NoNumber" (by decide)
  have t5 := tm "NoLine" (by decide)
  have t6 := tm "NoHand" (by decide)
  have t7 := tm "NoBit" (by decide)
  have t8 := tm "NoLetter" (by decide)
  have t9 := tm "NoTree" (by decide)
  have s1 : ∀ cn : Str, cn ∈ [cn] := fun cn => List.mem_singleton.mpr rfl
  unfold lawB
  refine ⟨by show max 1 (min 2 ns.length) < _; omega, ?_⟩
  refine seq_for (xs := List.range (max 1 (min 2 ns.length))) (fun i s n' => n' = 0) rfl ?_ ?_
  · rintro i a s n' e rfl Q q
    have hi := (List.getElem?_eq_some_iff.mp e).1
    have ha : i = a := by
      rw [List.length_range] at hi
      rw [List.getElem?_range hi] at e
      exact Option.some.inj e
    rw [List.length_range] at hi
    refine And.intro ⟨hl, by omega⟩ ?_
    refine ⟨⟨by decide, by decide, by decide⟩, fun r1 hr1 => ?_⟩
    refine ⟨⟨by decide, by decide, by decide⟩, fun r2 hr2 => ?_⟩
    refine ⟨by show 5 ≤ sizeLine; omega, ⟨by show 0 < 5; decide, by show 5 < 1073741824; decide, by decide⟩, fun z hz => ?_⟩
    have hz : z ∈ [(0 : Int), 1, (r1 : Int), (r2 : Int), -1] := hz
    have zb : z.natAbs ≤ 1000000000000000000000000000000 := by
      simp only [List.mem_cons, List.not_mem_nil, or_false] at hz
      omega
    have zk : ∀ j : Nat, j ≤ 5 → Ok4 0 (.int (z + (j : Int))) := fun j hj => ok4_int (by
      have : (10 : Nat) ^ 35 = 100000000000000000000000000000000000 := by decide
      omega)
    have z0 : Ok4 0 (.int z) := by
      have := zk 0 (by decide)
      have e : z + ((0 : Nat) : Int) = z := Int.add_zero z
      rw [e] at this
      exact this
    refine odd_w (by decide) fun d c' k hd hk hc' => ?_
    have o1 : ShOk (.list [.int z, .int (z + ((1 : Nat) : Int)), .int (z + ((2 : Nat) : Int)), .int (z + ((3 : Nat) : Int)), .int (z + ((4 : Nat) : Int)), .int (z + ((5 : Nat) : Int))]) := sh_list (by show 6 ≤ 20; decide) (by
      intro x hx
      simp only [List.mem_cons, List.not_mem_nil, or_false] at hx
      rcases hx with rfl | rfl | rfl | rfl | rfl | rfl
      · exact ⟨0, z0, by decide⟩
      · exact ⟨0, zk 1 (by decide), by decide⟩
      · exact ⟨0, zk 2 (by decide), by decide⟩
      · exact ⟨0, zk 3 (by decide), by decide⟩
      · exact ⟨0, zk 4 (by decide), by decide⟩
      · exact ⟨0, zk 5 (by decide), by decide⟩)
    have o2 : ShOk (.list [d, d, d, d, d, d, d, .int z]) := sh_list (by show 8 ≤ 20; decide) (by
      intro x hx
      simp only [List.mem_cons, List.not_mem_nil, or_false] at hx
      rcases hx with rfl | rfl | rfl | rfl | rfl | rfl | rfl | rfl
      all_goals first | exact ⟨k, hd, hk⟩ | exact ⟨0, z0, by decide⟩)
    refine ⟨by show 9 ≤ sizeLine; omega, by show 8 ≤ sizeLine; omega, by show 9 + 8 ≤ sizeLine; omega, ?_⟩
    refine fam_w rfl ?_
    refine seq_skip rfl ?_
    refine ⟨⟨.int z⟩, s1 _, rfl, ⟨.int (z + ((1 : Nat) : Int))⟩, s1 _, rfl, ⟨.int (z + ((2 : Nat) : Int))⟩, s1 _, rfl, ⟨.int (z + ((3 : Nat) : Int))⟩, s1 _, rfl, ⟨.int (z + ((4 : Nat) : Int))⟩, s1 _, rfl, ⟨.int (z + ((5 : Nat) : Int))⟩, t8, rfl, by show 6 ≤ sizeLine; omega, ?_⟩
    refine ⟨o1, by show 6 ≤ sizeLine; omega, o1, ?_⟩
    refine seq_skip (same_txt rfl) ?_
    refine ⟨⟨d⟩, t1, rfl, ⟨d⟩, t2, rfl, ⟨d⟩, t4, rfl, ⟨d⟩, t5, rfl, ⟨d⟩, t6, rfl, by show 5 ≤ sizeLine; omega, ?_⟩
    refine ⟨⟨d⟩, t7, rfl, ⟨d⟩, t9, rfl, ⟨.int z⟩, t3, rfl, by show 3 ≤ sizeLine; omega, by show 5 + 3 ≤ sizeLine; omega, ?_⟩
    refine ⟨o2, by show 1 ≤ sizeLine; omega, ⟨by decide, by decide, by show 1 * 7 ≤ sizeLine; omega⟩, by show 1 ≤ sizeLine; omega, by show 7 + 1 ≤ sizeLine; omega, o2, ?_⟩
    refine seq_skip (same_txt rfl) ?_
    exact q _ _ rfl
  · rintro s n' rfl
    rfl

end Bf
namespace Bf
open PySem PySem.Spec PyProof.Rows L2 LamX
/-- what is tracked at the law's call: the tables ts, empty; the script at a, locked, where it isn't written -/
def G0 (K : PySem.W.Frag) (ts : List Addr) (a : Addr) (ob : Obj) (xs : List V) : Hp := fun b =>
  if b ∈ ts then some (.tbl #[]) else if b = a ∧ (K.lookup a).isNone = true then some (.frz ob (.lst xs)) else none
section
variable {K : PySem.W.Frag} {ts : List Addr} {a b : Addr} {ob : Obj} {xs : List V}
theorem g0_tab (h : b ∈ ts) : G0 K ts a ob xs b = some (.tbl #[]) := if_pos h
theorem g0_scr (h : a ∉ ts) (n : K.lookup a = none) : G0 K ts a ob xs a = some (.frz ob (.lst xs)) := (if_neg h).trans (if_pos ⟨rfl, by rw [n]; rfl⟩)
theorem g0_some {u : HO} (h : G0 K ts a ob xs b = some u) : (b ∈ ts ∧ u = .tbl #[]) ∨ (b ∉ ts ∧ b = a ∧ K.lookup a = none ∧ u = .frz ob (.lst xs)) := by
  unfold G0 at h
  by_cases m : b ∈ ts
  · rw [if_pos m] at h
    exact .inl ⟨m, (Option.some.inj h).symm⟩
  · rw [if_neg m] at h
    by_cases c : b = a ∧ (K.lookup a).isNone = true
    · rw [if_pos c] at h
      exact .inr ⟨m, c.1, Option.isNone_iff_eq_none.mp c.2, (Option.some.inj h).symm⟩
    · rw [if_neg c] at h
      cases h
end
theorem law_tabs {P : Program} {w : World} {K : PySem.W.Frag} {mg mb : Str → Option Value} {k : Nat} {fa a : Addr} {cs : List (Addr × Addr)} {fd : FuncData} {x : Str} {sp : Sp} {z : Shared} {vs : List Value} {ns : List Int}
    (KI : K.In z.heap) (n1 : z.heap.Ns mainGlobals mg) (n2 : z.heap.Ns builtinsNs mb) (n3 : ∀ y : Str, y ≠ "__name__" → mb y = bootBuiltins y) (n4 : z.heap.NoLimit) (n5 : z.gens = #[])
    (t1 : ∀ p ∈ cs, z.heap.get? p.2 = some { cls := .none, data := .fields #[] }) (t2 : ∀ p ∈ cs, K.lookup p.2 = none) (t3 : ∀ p ∈ cs, PySem.W.CodeHd z.heap p.1 p.2)
    (t4 : ∃ (bm : Addr) (ob : Obj), mg "__builtins__" = some (.ref bm) ∧ bm ≠ builtinsNs ∧ z.heap.get? bm = some ob ∧ ob.cls = .type "module" ∧ ob.dict = some builtinsNs ∧ ob.data = .plain)
    (oa : z.heap.get? a = some { cls := .type "list", data := .seq vs.toArray }) (ia : IntsAre vs ns) (la : ns.length ≤ sizeLine) (rm : Room k callerA)
    (F : ∀ base : Heap, K.In base → base.Ns mainGlobals mg → (∀ p ∈ cs, TabB base mg p.1 p.2) → FnG P w K mg base k fa fd [x] sp) (bd : ∀ (s : Shared) (u : Value), BindsTo s fd ⟨[u], []⟩ [(x, u)])
    (hs : ∀ G : Hp, (∀ p ∈ cs, G p.2 = some (.tbl #[])) → SqL K G a (ns.map V.int) → sp [.ref a] G (fun v _ => v = .bl true) fun _ _ _ => False) :
    codeAny (model P w) callerA (.call (.ref fa) ⟨[.ref a], []⟩) (fun r y => r = .ok (.ret (.bool true)) ∧ OldK z.heap y.heap ∧ y.os = z.os ∧ AllBare y.gens) z := by
  have tm : ∀ b ∈ cs.map (·.2), ∃ p ∈ cs, p.2 = b := fun b h => by
    obtain ⟨p, hp, e⟩ := List.mem_map.mp h
    exact ⟨p, hp, e⟩
  have nat : a ∉ cs.map (·.2) := fun h => by
    obtain ⟨p, hp, e⟩ := tm a h
    have q := t1 p hp
    rw [e, oa] at q
    cases q
  generalize hG : G0 K (cs.map (·.2)) a { cls := .type "list", data := .seq vs.toArray } (ns.map V.int) = G
  have some' : ∀ {b u}, G b = some u → (b ∈ cs.map (·.2) ∧ u = .tbl #[]) ∨ (b ∉ cs.map (·.2) ∧ b = a ∧ K.lookup a = none ∧ u = .frz { cls := .type "list", data := .seq vs.toArray } (.lst (ns.map V.int))) := fun {b u} h => g0_some (hG ▸ h)
  have tabG : ∀ p ∈ cs, G p.2 = some (.tbl #[]) := fun p hp => hG ▸ g0_tab (List.mem_map.mpr ⟨p, hp, rfl⟩)
  have rv := vals_ints ia
  have sq : SqL K G a (ns.map V.int) := by
    cases e : K.lookup a with
    | none => exact .inl (.inr ⟨_, hG ▸ g0_scr nat e⟩)
    | some o =>
      have q := KI a o e
      rw [oa] at q
      cases q
      exact .inr ⟨_, vs.toArray, _, e, rfl, rfl, rfl, by rw [List.size_toArray, ia.length]; exact la, by simpa using rv⟩
  have ok : HOk P w G z.heap := fun b u e => by
    rcases some' e with ⟨m, rfl⟩ | ⟨_, rfl, _, rfl⟩
    · obtain ⟨p, hp, rfl⟩ := tm b m
      exact t1 p hp
    · exact ⟨oa, by rw [List.length_map]; exact la, vs, _, rv, oa⟩
  -- what is neither a list nor an empty table isn't tracked
  have off : ∀ {b : Addr} {o : Obj}, z.heap.get? b = some o → (∀ us n, o.data ≠ .seq us n) → o.data ≠ .fields #[] → G b = none := fun {b o} e d1 d2 => by
    cases q : G b with
    | none => rfl
    | some u =>
      rcases some' q with ⟨m, _⟩ | ⟨_, rfl, _, _⟩
      · obtain ⟨p, hp, rfl⟩ := tm b m
        rw [t1 p hp] at e
        cases e
        exact (d2 rfl).elim
      · rw [oa] at e
        cases e
        exact (d1 _ _ rfl).elim
  have stay : ∀ {b : Addr} {o : Obj}, z.heap.get? b = some o → (∀ us n, o.data ≠ .seq us n) → o.data ≠ .fields #[] → (hidT z.heap G).get? b = some o := fun e d1 d2 => hidT_get e (off e d1 d2)
  have nsB : ∀ {b : Addr} {m : Str → Option Value}, z.heap.Ns b m → (hidT z.heap G).Ns b m := fun ⟨o, es, ep, e, d, r⟩ => ⟨o, es, ep, stay e (fun us n y => by rw [d] at y; cases y) (fun y => by rw [d] at y; cases y), d, r⟩
  have inB : K.In (hidT z.heap G) := fun b o e => hidT_get (KI b o e) (by
    cases q : G b with
    | none => rfl
    | some u =>
      rcases some' q with ⟨m, _⟩ | ⟨_, rfl, n, _⟩
      · obtain ⟨p, hp, rfl⟩ := tm b m
        rw [t2 p hp] at e
        cases e
      · rw [n] at e
        cases e)
  have tbB : ∀ p ∈ cs, TabB (hidT z.heap G) mg p.1 p.2 := fun p hp => by
    refine ⟨?_, ?_, fun y => ?_⟩
    · obtain ⟨o, us, file, tf, flags, tg, inF, text, tt, e1, r1, r2, r3, rest⟩ := t3 p hp
      refine ⟨o, us, file, tf, flags, tg, inF, text, tt, stay e1 (fun us n y => by rw [r2] at y; cases y) (fun y => ?_), r1, r2, r3, rest⟩
      rw [r2] at y
      cases y
      simp at r3
    · obtain ⟨bm, om, b1, b2, b3, b4, b5, b6⟩ := t4
      refine ⟨bm, om, b1, b2, fun y => ?_, fun y => ?_, stay b3 (fun us n y => by rw [b6] at y; cases y) (fun y => by rw [b6] at y; cases y), b4, b5, b6⟩
      · obtain ⟨o, es, ep, e, d, _⟩ := n1
        rw [y, e] at b3
        cases b3
        rw [d] at b6
        cases b6
      · rw [y, t1 p hp] at b3
        cases b3
        cases b6
    · obtain ⟨o, es, ep, e, d, _⟩ := n1
      rw [y, t1 p hp] at e
      cases e
      cases d
  have md : L2.Mod K mg (hidT z.heap G) := ⟨inB, nsB n1, ⟨mb, nsB n2, n3⟩, let ⟨mc, c1, c2⟩ := n4; ⟨mc, nsB c1, c2⟩⟩
  have en : Env0 P w K mg (hidT z.heap G) callerA [] z G := ⟨rfl, md, fun _ _ e => of_hidT e, Nat.le_of_eq (hidT_size _ _), trivial, (fun b h => absurd (show b ∈ ([] : List Addr) from h) List.not_mem_nil), ok, .of_eq n5⟩
  refine codeAny_mono ((F _ inB (nsB n1) tbB).go callerA [] z G ⟨[.ref a], []⟩ [.ref a] [.ref a] _ _ rfl rm en (bd z (.ref a)) (.cons rfl .nil) (hs G tabG sq)) fun r y h => ?_
  match r, h with
  | .error _, h => exact h.elim
  | .ok .next, h => exact False.elim h
  | .ok .brk, h => exact False.elim h
  | .ok .cont, h => exact False.elim h
  | .ok (.ret u), h =>
    obtain ⟨v, G', e1, e2, un, ok', r', q⟩ := h
    obtain rfl : v = .bl true := q
    obtain rfl : u = Value.bool true := r'
    -- an object that stood before: a table may have grown, all else is as it was
    have old : ∀ b o, z.heap.get? b = some o → (b ∈ cs.map (·.2) ∧ ∃ more : Array Value, y.heap.get? b = some { cls := .none, data := .fields more }) ∨ y.heap.get? b = some o := fun b o e => by
      cases q : G b with
      | none => exact .inr (un.keep b o e q (fun h => absurd (show b ∈ ([] : List Addr) from h) List.not_mem_nil) List.not_mem_nil)
      | some u =>
        rcases some' q with ⟨m, rfl⟩ | ⟨_, rfl, _, rfl⟩
        · obtain ⟨more, g⟩ := un.tbls b #[] q
          exact .inl ⟨m, _, ok' b _ g⟩
        · rw [oa] at e
          cases e
          exact .inr (ok' b _ (un.frzs b _ _ q)).1
    refine ⟨rfl, ⟨fun b o e => ?_, fun b o e => ?_⟩, e1, e2⟩
    · rcases old b o e with ⟨m, more, g⟩ | g
      · obtain ⟨p, hp, rfl⟩ := tm b m
        rw [t1 p hp] at e
        cases e
        exact .inr (.inl ⟨((t3 p hp).tab (t1 p hp)).isCodeTable, rfl, #[], more, rfl, by rw [Array.empty_append]; exact g⟩)
      · exact .inl g
    · rcases old b o e with ⟨_, more, g⟩ | g
      · exact ⟨_, g⟩
      · exact ⟨o, g⟩
theorem walkTG {l : PySem.W.OpenLaw} {n k : Nat} {q : Program} {loose : List Str} {XP : (Str → Option Value) → Heap → Prop} {YP : World → Heap → Prop} {d : DefRec} {x : Str} (hn : l.most = some n) (hn2 : n ≤ sizeLine) (hdf : d.params.defaults = []) (rm : Room k callerA)
    (F : ∀ (w : World) (mg : Str → Option Value) (fa : Addr) (h : Heap), YP w h → h.Ns mainGlobals mg → mg d.name = some (.ref fa) → ∃ (K : PySem.W.Frag) (fd : FuncData) (cs : List (Addr × Addr)) (sp : Sp), K.In h ∧
      (∀ p ∈ cs, h.get? p.2 = some { cls := .none, data := .fields #[] }) ∧ (∀ p ∈ cs, K.lookup p.2 = none) ∧ (∀ p ∈ cs, PySem.W.CodeHd h p.1 p.2) ∧ (∀ (s : Shared) (u : Value), BindsTo s fd ⟨[u], []⟩ [(x, u)]) ∧
      (∀ (H : Hp) (a : Addr) (ns : List Int), ns.length ≤ n → (∀ p ∈ cs, H p.2 = some (.tbl #[])) → SqL K H a (ns.map V.int) → sp [.ref a] H (fun v _ => v = .bl true) fun _ _ _ => False) ∧
      ∀ base : Heap, K.In base → base.Ns mainGlobals mg → (∀ p ∈ cs, TabB base mg p.1 p.2) → FnG l.prog w K mg base k fa fd [x] sp) : PySem.W.WalkO q loose XP YP l.row.toRowW d [] (fun f vs => PySem.call f vs) := by
  refine Att.attach_call hn hdf fun w s₀ s₁ mg mb fa o pm cd doc a vs ns G Y ho hd hcd hmg hobj hints hlen hg => ?_
  obtain ⟨K, fd, cs, sp, KX, t1, t2, t3, t4, t5, t6⟩ := F w mg fa _ Y G.T.g hmg
  exact law_tabs KX G.T.g G.T.b G.T.builtins G.T.nolimit hg t1 t2 t3 G.T.bmain hobj hints (Nat.le_trans hlen hn2) rm t6 t4 (fun H hH hS => t5 H a ns hlen hH hS)
end Bf
namespace Bf
open PySem PySem.Spec PyProof.Rows L2 LamX NdefX
theorem fun_of {K : PySem.W.Frag} {x : Str} {st : Stmt} {f : Addr} {fd : FuncData} (F : FunD K x x (defArgs st) (defBody st) (defScope st) [] [] f fd) : Fun K x x st f fd := by
  obtain ⟨oc, od, dV, kV, doc, pm, an, cdv, ct, osl, e, lk, hcd, hD, hK⟩ := F.ex
  rcases hD with ⟨_, rfl⟩ | ⟨z, _⟩
  · exact ⟨⟨oc, od, kV, doc, pm, an, cdv, ct, osl, e, lk, hcd⟩, F.kp⟩
  · exact absurd rfl z
theorem facts {l : PySem.W.OpenLaw} {w : World} {K : PySem.W.Frag} {h : Heap} {mg : Str → Option Value} {fa : Addr} (X : K.In h) (G : h.Ns mainGlobals mg) (hfa : mg ("law" : Str) = some (.ref fa)) (c : He.SaysX faL fnL [] tfL exL w h K) : ∃ (fd : FuncData) (cs : List (Addr × Addr)) (sp : Sp),
      (∀ p ∈ cs, h.get? p.2 = some { cls := .none, data := .fields #[] }) ∧ (∀ p ∈ cs, K.lookup p.2 = none) ∧ (∀ p ∈ cs, PySem.W.CodeHd h p.1 p.2) ∧ (∀ (s : Shared) (u : Value), BindsTo s fd ⟨[u], []⟩ [("_law_script", u)]) ∧
      (∀ (H : Hp) (a : Addr) (ns : List Int), ns.length ≤ 63 → (∀ p ∈ cs, H p.2 = some (.tbl #[])) → SqL K H a (ns.map V.int) → sp [.ref a] H (fun v _ => v = .bl true) fun _ _ _ => False) ∧
      ∀ base : Heap, K.In base → base.Ns mainGlobals mg → (∀ p ∈ cs, TabB base mg p.1 p.2) → FnG l.prog w K mg base 4 fa fd ["_law_script"] sp := by
  have cd := c.t.d
  obtain ⟨e0, F0⟩ := cd.def_ 0 (d := dd0) rfl
  have g0 := He.glo_ok X G (cd.fact 0 (f := .glo "_law_pot") rfl)
  obtain ⟨e1, F1⟩ := cd.def_ 1 (d := dd1) rfl
  have g1 := He.glo_ok X G (cd.fact 1 (f := .glo "_law_take") rfl)
  obtain ⟨e2, F2⟩ := cd.def_ 2 (d := dd2) rfl
  have g2 := He.glo_ok X G (cd.fact 2 (f := .glo "_law_of") rfl)
  obtain ⟨e3, F3⟩ := cd.def_ 3 (d := dd3) rfl
  have g3 := He.glo_ok X G (cd.fact 3 (f := .glo "_law_odd") rfl)
  obtain ⟨e4, F4⟩ := cd.def_ 4 (d := dd4) rfl
  have g4 := He.glo_ok X G (cd.fact 4 (f := .glo "_law_under") rfl)
  obtain ⟨e5, F5⟩ := cd.def_ 5 (d := dd5) rfl
  have g5 := He.glo_ok X G (cd.fact 5 (f := .glo "_law_families_right") rfl)
  obtain ⟨e6, F6⟩ := cd.def_ 6 (d := dd6) rfl
  have g6 := He.glo_ok X G (cd.fact 6 (f := .glo "law") rfl)
  have m0 := He.free_ok X G (cd.fact 7 (f := .free "len") rfl)
  have m1 := He.free_ok X G (cd.fact 8 (f := .free "tuple") rfl)
  have m2 := He.free_ok X G (cd.fact 9 (f := .free "list") rfl)
  have m3 := He.free_ok X G (cd.fact 10 (f := .free "range") rfl)
  have m4 := He.free_ok X G (cd.fact 11 (f := .free "min") rfl)
  have m5 := He.free_ok X G (cd.fact 12 (f := .free "max") rfl)
  have m6 := He.free_ok X G (cd.fact 13 (f := .free "abs") rfl)
  have m7 := He.free_ok X G (cd.fact 14 (f := .free "int") rfl)
  have m8 := He.free_ok X G (cd.fact 15 (f := .free "all") rfl)
  have m9 := He.free_ok X G (cd.fact 16 (f := .free "any") rfl)
  have m10 := He.free_ok X G (cd.fact 17 (f := .free "zip") rfl)
  have m11 := He.free_ok X G (cd.fact 18 (f := .free "enumerate") rfl)
  have m12 := He.free_ok X G (cd.fact 19 (f := .free "reversed") rfl)
  have m13 := He.free_ok X G (cd.fact 20 (f := .free "repr") rfl)
  have m14 := He.free_ok X G (cd.fact 21 (f := .free "sorted") rfl)
  have m15 := He.free_ok X G (cd.fact 22 (f := .free "sum") rfl)
  have m16 := He.free_ok X G (cd.fact 23 (f := .free "set") rfl)
  have m17 := He.free_ok X G (cd.fact 24 (f := .free "isinstance") rfl)
  have m18 := He.free_ok X G (cd.fact 25 (f := .free "bool") rfl)
  have m19 := He.free_ok X G (cd.fact 26 (f := .free "ValueError") rfl)
  have m20 := He.free_ok X G (cd.fact 27 (f := .free "LookupError") rfl)
  obtain ⟨e7, F7⟩ := cd.def_ 7 (d := dd7) rfl
  obtain ⟨e8, F8⟩ := cd.def_ 8 (d := dd8) rfl
  obtain ⟨e9, F9⟩ := cd.def_ 9 (d := dd9) rfl
  obtain ⟨e10, F10⟩ := cd.def_ 10 (d := dd10) rfl
  obtain ⟨e11, F11⟩ := cd.def_ 11 (d := dd11) rfl
  obtain ⟨e12, F12⟩ := cd.def_ 12 (d := dd12) rfl
  obtain ⟨e13, F13⟩ := cd.def_ 13 (d := dd13) rfl
  obtain ⟨e14, F14⟩ := cd.def_ 14 (d := dd14) rfl
  obtain ⟨e15, F15⟩ := cd.def_ 15 (d := dd15) rfl
  obtain ⟨e16, F16⟩ := cd.def_ 16 (d := dd16) rfl
  obtain ⟨e17, F17⟩ := cd.def_ 17 (d := dd17) rfl
  obtain ⟨e18, F18⟩ := cd.def_ 18 (d := dd18) rfl
  obtain ⟨e19, F19⟩ := cd.def_ 19 (d := dd19) rfl
  obtain ⟨e20, F20⟩ := cd.def_ 20 (d := dd20) rfl
  have z0 := He.glo_ok X G (cd.fact 28 (f := .glo "NoInverse") rfl)
  have z1 := He.glo_ok X G (cd.fact 29 (f := .glo "TooFew") rfl)
  have z2 := He.glo_ok X G (cd.fact 30 (f := .glo "BadNumbers") rfl)
  have z3 := He.glo_ok X G (cd.fact 31 (f := .glo "BadHouse") rfl)
  have z4 := He.glo_ok X G (cd.fact 32 (f := .glo "BadRows") rfl)
  have z5 := He.glo_ok X G (cd.fact 33 (f := .glo "NoNumber") rfl)
  have z6 := He.glo_ok X G (cd.fact 34 (f := .glo "NoText") rfl)
  have z7 := He.glo_ok X G (cd.fact 35 (f := .glo "NoLine") rfl)
  have z8 := He.glo_ok X G (cd.fact 36 (f := .glo "Early") rfl)
  have z9 := He.glo_ok X G (cd.fact 37 (f := .glo "Busy") rfl)
  have z10 := He.glo_ok X G (cd.fact 38 (f := .glo "Bad") rfl)
  have z11 := He.glo_ok X G (cd.fact 39 (f := .glo "NoHand") rfl)
  have z12 := He.glo_ok X G (cd.fact 40 (f := .glo "NoBit") rfl)
  have z13 := He.glo_ok X G (cd.fact 41 (f := .glo "NoLetter") rfl)
  have z14 := He.glo_ok X G (cd.fact 42 (f := .glo "NoTree") rfl)
  have z15 := He.glo_ok X G (cd.fact 43 (f := .glo "Ended") rfl)
  have z16 := He.glo_ok X G (cd.fact 44 (f := .glo "Idle") rfl)
  have z17 := He.glo_ok X G (cd.fact 45 (f := .glo "NotSo") rfl)
  have z18 := He.glo_ok X G (cd.fact 46 (f := .glo "Gone") rfl)
  have ee := hfa.symm.trans g6
  cases ee
  have bL := FunD.bindsA (ps := ["_law_script"]) F6 fun _ _ _ _ _ _ us hl => match us, hl with | [_], _ => rfl
  refine ⟨e6, [], spLaw K, fun p hp => absurd hp List.not_mem_nil, fun p hp => absurd hp List.not_mem_nil, fun p hp => absurd hp List.not_mem_nil, fun s v => bL s [v] rfl, fun H a ns hl hH hS => ⟨a, ns, rfl, hS, hl, fun _ => rfl⟩, fun base _ _ TB => ?_⟩
  · skip
    have f0 := fun_of (st := sPot) F0
    have b0 := f0.binds (ps := ["_law_script", "_law_k"]) fun _ _ _ _ _ _ us hl => match us, hl with | [_, _], _ => rfl
    have f1 := fun_of (st := sTake) F1
    have b1 := f1.binds (ps := ["_law_pot_here", "_law_upto"]) fun _ _ _ _ _ _ us hl => match us, hl with | [_, _], _ => rfl
    have f2 := fun_of (st := sOf) F2
    have b2 := f2.binds (ps := ["_law_pot_here", "_law_some"]) fun _ _ _ _ _ _ us hl => match us, hl with | [_, _], _ => rfl
    have f3 := fun_of (st := sOdd) F3
    have b3 := f3.binds (ps := ["_law_pot_here"]) fun _ _ _ _ _ _ us hl => match us, hl with | [_], _ => rfl
    have f4 := fun_of (st := sUnd) F4
    have b4 := f4.binds (ps := ["_law_e"]) fun _ _ _ _ _ _ us hl => match us, hl with | [_], _ => rfl
    have f5 := fun_of (st := sFam) F5
    have b5 := f5.binds (ps := ["_law_found"]) fun _ _ _ _ _ _ us hl => match us, hl with | [_], _ => rfl
    have f6 := fun_of (st := sLaw) F6
    have b : Bls2 mg := ⟨⟨m0, m1, m2, m3, m4, m5, m6, m7, m8, m9, m10, m11, m12, m13, m14, m15, m16⟩, m17, m18⟩
    have ERR0 := (Bool.and_eq_true_iff.mp (Bool.and_eq_true_iff.mp c.more).1).2
    have R_Idle : Mk0 K mg "Idle" := mk0B_ok (Bool.and_eq_true_iff.mp ERR0).1 z16
    have ERR1 := (Bool.and_eq_true_iff.mp ERR0).2
    have R_Ended : Mk0 K mg "Ended" := mk0B_ok (Bool.and_eq_true_iff.mp ERR1).1 z15
    have ERR2 := (Bool.and_eq_true_iff.mp ERR1).2
    have E_NoTree : ErL K (He.ga K "NoTree") (He.ma K (He.ga K "NoTree") "__init__") "thing" := errLB_ok (Bool.and_eq_true_iff.mp ERR2).1
    have ERR3 := (Bool.and_eq_true_iff.mp ERR2).2
    have bi0_NoTree := FunD.bindsA (ps := ["self", "thing"]) F20 fun _ _ _ _ _ _ us hl => match us, hl with | [_, _], _ => rfl
    have bi_NoTree : L2.Binds K _ ["self", "thing"] [] := fun s us _ hl => by rw [List.append_nil] at hl ⊢; exact bi0_NoTree s us hl
    have R_NoTree : RzL l.prog w K mg base "NoTree" "thing" := ⟨_, _, E_NoTree, ok_iniNoTree E_NoTree F20, bi_NoTree, z14⟩
    have E_NoLetter : ErL K (He.ga K "NoLetter") (He.ma K (He.ga K "NoLetter") "__init__") "thing" := errLB_ok (Bool.and_eq_true_iff.mp ERR3).1
    have ERR4 := (Bool.and_eq_true_iff.mp ERR3).2
    have bi0_NoLetter := FunD.bindsA (ps := ["self", "thing"]) F19 fun _ _ _ _ _ _ us hl => match us, hl with | [_, _], _ => rfl
    have bi_NoLetter : L2.Binds K _ ["self", "thing"] [] := fun s us _ hl => by rw [List.append_nil] at hl ⊢; exact bi0_NoLetter s us hl
    have R_NoLetter : RzL l.prog w K mg base "NoLetter" "thing" := ⟨_, _, E_NoLetter, ok_iniNoLetter E_NoLetter F19, bi_NoLetter, z13⟩
    have E_NoBit : ErL K (He.ga K "NoBit") (He.ma K (He.ga K "NoBit") "__init__") "thing" := errLB_ok (Bool.and_eq_true_iff.mp ERR4).1
    have ERR5 := (Bool.and_eq_true_iff.mp ERR4).2
    have bi0_NoBit := FunD.bindsA (ps := ["self", "thing"]) F18 fun _ _ _ _ _ _ us hl => match us, hl with | [_, _], _ => rfl
    have bi_NoBit : L2.Binds K _ ["self", "thing"] [] := fun s us _ hl => by rw [List.append_nil] at hl ⊢; exact bi0_NoBit s us hl
    have R_NoBit : RzL l.prog w K mg base "NoBit" "thing" := ⟨_, _, E_NoBit, ok_iniNoBit E_NoBit F18, bi_NoBit, z12⟩
    have E_NoHand : ErL K (He.ga K "NoHand") (He.ma K (He.ga K "NoHand") "__init__") "thing" := errLB_ok (Bool.and_eq_true_iff.mp ERR5).1
    have ERR6 := (Bool.and_eq_true_iff.mp ERR5).2
    have bi0_NoHand := FunD.bindsA (ps := ["self", "thing"]) F17 fun _ _ _ _ _ _ us hl => match us, hl with | [_, _], _ => rfl
    have bi_NoHand : L2.Binds K _ ["self", "thing"] [] := fun s us _ hl => by rw [List.append_nil] at hl ⊢; exact bi0_NoHand s us hl
    have R_NoHand : RzL l.prog w K mg base "NoHand" "thing" := ⟨_, _, E_NoHand, ok_iniNoHand E_NoHand F17, bi_NoHand, z11⟩
    have E_Bad : ErK K (He.ga K "Bad") (He.ma K (He.ga K "Bad") "__init__") "hand" := errB_ok (Bool.and_eq_true_iff.mp ERR6).1
    have ERR7 := (Bool.and_eq_true_iff.mp ERR6).2
    have bi0_Bad := FunD.bindsA (ps := ["self", "hand"]) F16 fun _ _ _ _ _ _ us hl => match us, hl with | [_, _], _ => rfl
    have bi_Bad : L2.Binds K _ ["self", "hand"] [] := fun s us _ hl => by rw [List.append_nil] at hl ⊢; exact bi0_Bad s us hl
    have R_Bad : RzC l.prog w K mg base "Bad" "hand" := ⟨_, _, E_Bad, ok_iniBad E_Bad F16, bi_Bad, z10⟩
    have R_Busy : Mk0 K mg "Busy" := mk0B_ok (Bool.and_eq_true_iff.mp ERR7).1 z9
    have ERR8 := (Bool.and_eq_true_iff.mp ERR7).2
    have E_Early : ErK K (He.ga K "Early") (He.ma K (He.ga K "Early") "__init__") "beats" := errB_ok (Bool.and_eq_true_iff.mp ERR8).1
    have ERR9 := (Bool.and_eq_true_iff.mp ERR8).2
    have bi0_Early := FunD.bindsA (ps := ["self", "beats"]) F15 fun _ _ _ _ _ _ us hl => match us, hl with | [_, _], _ => rfl
    have bi_Early : L2.Binds K _ ["self", "beats"] [] := fun s us _ hl => by rw [List.append_nil] at hl ⊢; exact bi0_Early s us hl
    have R_Early : RzC l.prog w K mg base "Early" "beats" := ⟨_, _, E_Early, ok_iniEarly E_Early F15, bi_Early, z8⟩
    have E_NoLine : ErK K (He.ga K "NoLine") (He.ma K (He.ga K "NoLine") "__init__") "thing" := errB_ok (Bool.and_eq_true_iff.mp ERR9).1
    have ERR10 := (Bool.and_eq_true_iff.mp ERR9).2
    have bi0_NoLine := FunD.bindsA (ps := ["self", "thing"]) F14 fun _ _ _ _ _ _ us hl => match us, hl with | [_, _], _ => rfl
    have bi_NoLine : L2.Binds K _ ["self", "thing"] [] := fun s us _ hl => by rw [List.append_nil] at hl ⊢; exact bi0_NoLine s us hl
    have R_NoLine : RzC l.prog w K mg base "NoLine" "thing" := ⟨_, _, E_NoLine, ok_iniNoLine E_NoLine F14, bi_NoLine, z7⟩
    have E_NoText : ErK K (He.ga K "NoText") (He.ma K (He.ga K "NoText") "__init__") "row" := errB_ok (Bool.and_eq_true_iff.mp ERR10).1
    have ERR11 := (Bool.and_eq_true_iff.mp ERR10).2
    have bi0_NoText := FunD.bindsA (ps := ["self", "row"]) F13 fun _ _ _ _ _ _ us hl => match us, hl with | [_, _], _ => rfl
    have bi_NoText : L2.Binds K _ ["self", "row"] [] := fun s us _ hl => by rw [List.append_nil] at hl ⊢; exact bi0_NoText s us hl
    have R_NoText : RzC l.prog w K mg base "NoText" "row" := ⟨_, _, E_NoText, ok_iniNoText E_NoText F13, bi_NoText, z6⟩
    have E_NoNumber : ErK K (He.ga K "NoNumber") (He.ma K (He.ga K "NoNumber") "__init__") "thing" := errB_ok (Bool.and_eq_true_iff.mp ERR11).1
    have ERR12 := (Bool.and_eq_true_iff.mp ERR11).2
    have bi0_NoNumber := FunD.bindsA (ps := ["self", "thing"]) F12 fun _ _ _ _ _ _ us hl => match us, hl with | [_, _], _ => rfl
    have bi_NoNumber : L2.Binds K _ ["self", "thing"] [] := fun s us _ hl => by rw [List.append_nil] at hl ⊢; exact bi0_NoNumber s us hl
    have R_NoNumber : RzC l.prog w K mg base "NoNumber" "thing" := ⟨_, _, E_NoNumber, ok_iniNoNumber E_NoNumber F12, bi_NoNumber, z5⟩
    have E_BadRows : ErK K (He.ga K "BadRows") (He.ma K (He.ga K "BadRows") "__init__") "thing" := errB_ok (Bool.and_eq_true_iff.mp ERR12).1
    have ERR13 := (Bool.and_eq_true_iff.mp ERR12).2
    have bi0_BadRows := FunD.bindsA (ps := ["self", "thing"]) F11 fun _ _ _ _ _ _ us hl => match us, hl with | [_, _], _ => rfl
    have bi_BadRows : L2.Binds K _ ["self", "thing"] [] := fun s us _ hl => by rw [List.append_nil] at hl ⊢; exact bi0_BadRows s us hl
    have R_BadRows : RzC l.prog w K mg base "BadRows" "thing" := ⟨_, _, E_BadRows, ok_iniBadRows E_BadRows F11, bi_BadRows, z4⟩
    have E_BadHouse : ErK K (He.ga K "BadHouse") (He.ma K (He.ga K "BadHouse") "__init__") "thing" := errB_ok (Bool.and_eq_true_iff.mp ERR13).1
    have ERR14 := (Bool.and_eq_true_iff.mp ERR13).2
    have bi0_BadHouse := FunD.bindsA (ps := ["self", "thing"]) F10 fun _ _ _ _ _ _ us hl => match us, hl with | [_, _], _ => rfl
    have bi_BadHouse : L2.Binds K _ ["self", "thing"] [] := fun s us _ hl => by rw [List.append_nil] at hl ⊢; exact bi0_BadHouse s us hl
    have R_BadHouse : RzC l.prog w K mg base "BadHouse" "thing" := ⟨_, _, E_BadHouse, ok_iniBadHouse E_BadHouse F10, bi_BadHouse, z3⟩
    have E_BadNumbers : ErK K (He.ga K "BadNumbers") (He.ma K (He.ga K "BadNumbers") "__init__") "thing" := errB_ok (Bool.and_eq_true_iff.mp ERR14).1
    have ERR15 := (Bool.and_eq_true_iff.mp ERR14).2
    have bi0_BadNumbers := FunD.bindsA (ps := ["self", "thing"]) F9 fun _ _ _ _ _ _ us hl => match us, hl with | [_, _], _ => rfl
    have bi_BadNumbers : L2.Binds K _ ["self", "thing"] [] := fun s us _ hl => by rw [List.append_nil] at hl ⊢; exact bi0_BadNumbers s us hl
    have R_BadNumbers : RzC l.prog w K mg base "BadNumbers" "thing" := ⟨_, _, E_BadNumbers, ok_iniBadNumbers E_BadNumbers F9, bi_BadNumbers, z2⟩
    have E_TooFew : ErK K (He.ga K "TooFew") (He.ma K (He.ga K "TooFew") "__init__") "many" := errB_ok (Bool.and_eq_true_iff.mp ERR15).1
    have ERR16 := (Bool.and_eq_true_iff.mp ERR15).2
    have bi0_TooFew := FunD.bindsA (ps := ["self", "many"]) F8 fun _ _ _ _ _ _ us hl => match us, hl with | [_, _], _ => rfl
    have bi_TooFew : L2.Binds K _ ["self", "many"] [] := fun s us _ hl => by rw [List.append_nil] at hl ⊢; exact bi0_TooFew s us hl
    have R_TooFew : RzC l.prog w K mg base "TooFew" "many" := ⟨_, _, E_TooFew, ok_iniTooFew E_TooFew F8, bi_TooFew, z1⟩
    have E_NoInverse : ErK K (He.ga K "NoInverse") (He.ma K (He.ga K "NoInverse") "__init__") "number" := errB_ok (Bool.and_eq_true_iff.mp ERR16).1
    have ERR17 := (Bool.and_eq_true_iff.mp ERR16).2
    have bi0_NoInverse := FunD.bindsA (ps := ["self", "number"]) F7 fun _ _ _ _ _ _ us hl => match us, hl with | [_, _], _ => rfl
    have bi_NoInverse : L2.Binds K _ ["self", "number"] [] := fun s us _ hl => by rw [List.append_nil] at hl ⊢; exact bi0_NoInverse s us hl
    have R_NoInverse : RzC l.prog w K mg base "NoInverse" "number" := ⟨_, _, E_NoInverse, ok_iniNoInverse E_NoInverse F7, bi_NoInverse, z0⟩
    have k_ERR : ErrT K mg errCs errOwn errBlt errFl errSup := ⟨ERR17, fun C hC => by
      simp only [errOwn, List.mem_cons, List.not_mem_nil, or_false] at hC
      rcases hC with rfl | rfl | rfl | rfl | rfl | rfl | rfl | rfl | rfl | rfl | rfl | rfl | rfl | rfl | rfl | rfl | rfl | rfl | rfl
      · exact z0
      · exact z1
      · exact z2
      · exact z3
      · exact z4
      · exact z5
      · exact z6
      · exact z7
      · exact z8
      · exact z9
      · exact z10
      · exact z11
      · exact z12
      · exact z13
      · exact z14
      · exact z15
      · exact z16
      · exact z17
      · exact z18, fun C hC => by
      simp only [errBlt, List.mem_cons, List.not_mem_nil, or_false] at hC
      rcases hC with rfl | rfl
      · exact m19
      · exact m20⟩
    have c_urn : CalF l.prog w K mg base 1 "_law_pot" _ _ _ (spPot K) := ⟨ok_pot f0 m0 m6 m7, f0.kp, b0, g0⟩
    have GT0 : FnOk l.prog w K mg base CX0 1 _ _ _ spTake := ok_take f1
    have c_take : CalF l.prog w K mg base 1 "_law_take" _ _ _ (spP1 K ([] : List (Addr × Str)) takeB) := ⟨ad_take GT0, f1.kp, b1, g1⟩
    have c_of : ∀ {α : Type} [Enc α] [Pu α], CalF l.prog w K mg base 2 "_law_of" _ _ _ (spP1 K ([] : List (Addr × Str)) (ofW (α := α))) := fun {α} _ _ => ⟨ad_of (ok_of f2 GT0 f1.kp b1 g1 m0), f2.kp, b2, g2⟩
    have c_odd : CalF l.prog w K mg base 3 "_law_odd" _ _ ["_law_pot_here"] (spP0 K ([] : List (Addr × Str)) oddW) := ⟨ok_odd f3 b c_of c_take, f3.kp, b3, g3⟩
    have c_und : CalF l.prog w K mg base 1 "_law_under" _ _ ["_law_e"] (spW1 K ([] : List (Addr × Str)) undW) := ⟨ok_und f4 b  k_ERR, f4.kp, b4, g4⟩
    have c_fam : CalF l.prog w K mg base 2 "_law_families_right" _ _ ["_law_found"] (spW1 K ([] : List (Addr × Str)) famW) := ⟨ok_fam f5 b c_und k_ERR, f5.kp, b5, g5⟩
    exact ok_law f6 b c_fam c_odd c_of c_take k_ERR R_Bad R_BadHouse R_BadNumbers R_BadRows R_Busy R_Early R_Ended R_Idle R_NoBit R_NoHand R_NoInverse R_NoLetter R_NoLine R_NoNumber R_NoText R_NoTree R_TooFew c_urn law_win
end Bf
open PySem PySem.W PySem.Calls PyProof.Rows
set_option maxHeartbeats 0 in
theorem PySem.Challenge.cw_beatferry_k64_refusals_by_themselves_holds : PySem.Challenge.rw_beatferry_k64_refusals_by_themselves.Holds := by
  w_on; o_law
  refine HandSHeadRun.head_any (r := OpenLaw.row PySem.Challenge.rw_beatferry_k64_refusals_by_themselves) (q := view (OpenLaw.row PySem.Challenge.rw_beatferry_k64_refusals_by_themselves).prog [27]) (H := Bf.hkL) (ob := Bf.obL) (M := 20000) (loose := ["NotSo", "Gone", "NoInverse", "TooFew", "BadNumbers", "BadHouse", "BadRows", "NoNumber", "NoText", "NoLine", "Early", "Busy", "Bad", "NoHand", "NoBit", "NoLetter", "NoTree", "Ended", "Idle", "_law_pot", "_law_take", "_law_of", "_law_odd", "_law_under", "_law_families_right"]) (d := HandSHeadRun.topDef (OpenLaw.row PySem.Challenge.rw_beatferry_k64_refusals_by_themselves).prog 27) (kwd := []) Bf.obL_eq
    (by kernel_rfl) (fun s => by kernel_rfl) Bf.runL (by kernel_rfl) (by kernel_rfl) (by kernel_rfl) (by rfl) (by first | assumption | decide +kernel) (by decide +kernel) ⟨rfl, rfl, rfl, rfl, rfl, by decide +kernel⟩ ?hw ?hc
  case hw => w_witness2
  case hc =>
    refine Bf.walkTG (l := PySem.Challenge.rw_beatferry_k64_refusals_by_themselves) (n := 63) (k := 4) (x := "_law_script") rfl (by decide) (by kernel_rfl) ⟨rfl, by decide, by decide⟩ ?F
    intro w mg fa h Y G hmg0
    obtain ⟨K, KX, c⟩ := Y
    have hmg : mg ("law" : PySem.Str) = some (.ref fa) := by
      have e : (HandSHeadRun.topDef (OpenLaw.row PySem.Challenge.rw_beatferry_k64_refusals_by_themselves).prog 27).name = ("law" : PySem.Str) := by kernel_rfl
      rw [← e]
      exact hmg0
    obtain ⟨fd, cs, sp, h1, h2, h3, h4, h5, h6⟩ := Bf.facts (l := PySem.Challenge.rw_beatferry_k64_refusals_by_themselves) (w := w) KX G hmg c; exact ⟨K, fd, cs, sp, KX, h1, h2, h3, h4, h5, h6⟩
