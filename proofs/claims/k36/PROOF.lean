import PyProof.Rows.All
import Wide.All
import OpenK.AllK
import Wide.FinOn
import HandS.ForMost
import HandS.WideBits
import HandS.IsInst
import HandS.Style
import HandS.AnyAll
import HandS.Nested
import HandS.Walk
import HandS.Evl
import HandS.EndTab
import HandS.SortInts
import HandS.SortRule
import HandS.Conv
import HandS.Star
import HandS.Codes
import HandS.Wide
import HandS.Zip
import HandS.DictComp
import HandS.SetFor
import HandS.SetKeys
import HandS.StrMore
import HandS.Replace
import PyProof.ReprRoads
import PyProof.ReprLen
import HandS.Small
import HandS.More
import KE.KDictPairs
import KE.GoesMore
import KE.GoesEnum
import PyProof.SumAny
import PyProof.WalksPairs
import PyProof.GenCompT
import HandS.GenList
import HandS.Lambda
import HandS.Set
import HandS.SetBool
import HandS.Comp
import HandS.Strs
import HandS.Deep
import HandS.TupAny
import KE.DataMinMax
import KE.SortData
import PySem.Challenge.RW_tinrecall_k36_none_shown_of_any_form
set_option Elab.async false
set_option linter.all false
set_option maxRecDepth 100000
set_option maxHeartbeats 5000000
/-! ## sum(.. for a, b in ..): a generator expression over a list or a tuple of pairs of whole numbers -/
namespace GP
open PySem PySem.Spec PyProof.Rows L2 GxR

/-- a walk whose items are tuples that stand still -/
theorem asTuples {prog : Program} {w : World} {A : Around} {it : Addr} {foot : List Addr} {n : Nat} {Item : Nat → Value → Prop} {At : Nat → Heap → Prop} (W : Walks prog w A it foot [it] n Item At) (loc : Nat → Addr) (held : Nat → Array Value)
    (isT : ∀ j v, j < n → Item j v → v = .ref (loc j)) (apt : ∀ j, j < n → loc j ≠ it)
    (letGo : ∀ (es : List Expr) (k : Nat) (pos : Pos) (j : Nat) (T : Addr) (s : Shared) (Q : Unit → Shared → Prop) (E : Value → Shared → Prop), At j s.heap → Q () s → wpAny (model prog w) A (letOwnedTupleGo (.Tuple es k pos) (.ref it) (.ref T)) Q E s) :
    WalksU prog w A it (foot ++ (List.range n).map loc) [it] n (fun j xs => xs = held j) (fun j h => At j h ∧ ∀ m, m < n → h.IsTuple (loc m) (held m))
      (fun j T h => (j < n ∧ T = loc j) ∧ At (j + 1) h ∧ ∀ m, m < n → h.IsTuple (loc m) (held m)) := by
  have inFoot : ∀ m, m < n → loc m ∈ foot ++ (List.range n).map loc := fun m hm => List.mem_append.mpr (.inr (List.mem_map.mpr ⟨m, List.mem_range.mpr hm, rfl⟩))
  constructor
  case sub => exact fun b hb => List.mem_append.mpr (.inl (W.sub b hb))
  case frame =>
    intro j h h' ⟨a1, a2⟩ kept
    refine ⟨W.frame j h h' a1 fun b hb => kept b (List.mem_append.mpr (.inl hb)), fun m hm => ?_⟩
    obtain ⟨o, e, r⟩ := a2 m hm
    exact ⟨o, kept _ (inFoot m hm) o e, r⟩
  case item =>
    intro j s Q E hj ⟨a1, a2⟩ fin
    refine W.item j s Q E hj a1 fun v h' tk hv a1' kept => ?_
    have still : ∀ m, m < n → h'.IsTuple (loc m) (held m) := fun m hm => by
      obtain ⟨o, e, r⟩ := a2 m hm
      exact ⟨o, kept _ o (fun z => apt m hm (List.mem_singleton.mp z)) e, r⟩
    rw [isT j v hj hv]
    exact fin (loc j) (held j) h' tk rfl (still j hj) ⟨⟨hj, rfl⟩, a1', still⟩ kept
  case go =>
    intro es k pos j T s Q E hm fin
    exact letGo es k pos (j + 1) T s Q E hm.2.1 (fin s.heap hm.2 fun _ _ _ e => e)
  case apart =>
    intro j T h hm z
    rw [hm.1.2] at z
    exact apt j hm.1.1 (List.mem_singleton.mp z)
  case done => exact fun s Q E a fin => W.done s Q E a.1 fin
  case self => exact fun j s Q E a fin => W.self j s Q E a.1 fin

/-- the values vs are tuples that hold the pairs ps -/
def Prs (H : Hp) (vs : List V) (ps : List (Int × Int)) : Prop := vs.length = ps.length ∧ ∀ (i : Nat) p, ps[i]? = some p → ∃ a, vs[i]? = some (.ref a) ∧ H a = some (.tup [.int p.1, .int p.2])

/-- what is asked of the expression's own scope: the two names are its locals, its captured names are the def's -/
def OwnScope (env : Env) (sc : Scope) (xa xb : Str) : Prop :=
  (sc.kind = .function ∧ sc.isCoroutine = false ∧ xa ≠ xb) ∧ (sc.names.lookup (".0" : Str) = some .local ∧ sc.names.lookup xa = some .local ∧ sc.names.lookup xb = some .local) ∧
  (∀ y ∈ sc.names, y.2 ≠ NameKind.cell) ∧ ∀ y ∈ sc.names, y.2 = NameKind.free → ∃ c, env.cells.lookup y.1 = some c

section
variable {X : Cx} {s : Shared} {H : Hp} {σ : L2.St} {pins : List (Addr × Obj)}
/-- a tracked pair in the machine's heap -/
theorem pair_in {T : Addr} {p : Int × Int} (I : Inv X pins σ H s) (e : H T = some (.tup [.int p.1, .int p.2])) : ∃ ta tb, s.heap.IsTuple T #[.int p.1 ta, .int p.2 tb] := by
  obtain ⟨_, its, r, t⟩ := I.hok T _ e
  cases r with
  | cons q1 r =>
    cases r with
    | cons q2 r =>
      cases r
      obtain ⟨ta, rfl⟩ := q1
      obtain ⟨tb, rfl⟩ := q2
      exact ⟨ta, tb, t⟩
/-- the pairs by place: where they stand and what they hold -/
theorem pairs_in {vs : List V} {ps : List (Int × Int)} {its : List Value} (I : Inv X pins σ H s) (hp : Prs H vs ps) (r : Vals vs its) :
    ∃ (loc : Nat → Addr) (held : Nat → Array Value), ∀ j, j < ps.length → its[j]? = some (.ref (loc j)) ∧ s.heap.IsTuple (loc j) (held j) ∧ ∃ p ta tb, ps[j]? = some p ∧ held j = #[.int p.1 ta, .int p.2 tb] := by
  have one : ∀ j, ∃ (T : Addr) (xs : Array Value), j < ps.length → its[j]? = some (.ref T) ∧ s.heap.IsTuple T xs ∧ ∃ p ta tb, ps[j]? = some p ∧ xs = #[.int p.1 ta, .int p.2 tb] := fun j => by
    by_cases hj : j < ps.length
    · obtain ⟨T, e1, e2⟩ := hp.2 j ps[j] (List.getElem?_eq_getElem hj)
      obtain ⟨u, eu, ru⟩ := r.get e1
      cases ru
      obtain ⟨ta, tb, t⟩ := pair_in I e2
      exact ⟨T, _, fun _ => ⟨eu, t, ps[j], ta, tb, List.getElem?_eq_getElem hj, rfl⟩⟩
    · exact ⟨0, #[], fun z => absurd z hj⟩
  exact ⟨fun j => (one j).choose, fun j => (one j).choose_spec.choose, fun j hj => (one j).choose_spec.choose_spec hj⟩

/-- what a walk over the pairs is, begun at the new iterator that o is -/
def Begun (X : Cx) (s : Shared) (P : Addr) (ps : List (Int × Int)) (o : Obj) : Prop :=
  ∃ (foot : List Addr) (Hold : Nat → Array Value → Prop) (At : Nat → Heap → Prop) (Mid : Nat → Addr → Heap → Prop),
    (∀ A' : Around, A'.handled = none → WalksU X.prog X.w A' s.heap.objs.size foot [s.heap.objs.size] ps.length (fun j xs => j < ps.length ∧ Hold j xs) At Mid) ∧
    (∀ j xs, j < ps.length → Hold j xs → ∃ p ta tb, ps[j]? = some p ∧ xs = #[.int p.1 ta, .int p.2 tb]) ∧ At 0 (s.heap.push o) ∧ ∀ b ∈ foot, b < s.heap.objs.size + 1 ∧ b ≠ P
theorem begin_pairs {a P : Addr} {vs : List V} {ps : List (Int × Int)} {tb : Array Value} {Q' : Value → Shared → Prop} (I : Inv X pins σ H s) (hS : SqL X.K H a vs ∨ SqT X.K H a vs) (hp : Prs H vs ps) (hP : H P = some (.tbl tb))
    (fin : ∀ o, Begun X s P ps o → Q' (.ref s.heap.objs.size) { s with heap := s.heap.push o }) : wpAny (model X.prog X.w) X.A (pyIter (.ref a)) Q' X.xe s := by
  have hPo : s.heap.get? P = some { cls := .none, data := .fields tb } := I.hok P _ hP
  have notP : ∀ (b : Addr) (o : Obj) (xs : Array Value) (n : Nat), s.heap.get? b = some o → o.data = .seq xs n → b ≠ P := fun b o xs n e d z => by
    rw [z, hPo] at e
    rw [← Option.some.inj e] at d
    cases d
  have newP : s.heap.objs.size ≠ P := fun z => Nat.lt_irrefl _ (Nat.lt_of_lt_of_eq (Heap.lt_size hPo) z)
  -- from a walk over the items to the pairs
  have mk : ∀ (its : List Value) (o : Obj) (At : Nat → Heap → Prop), Vals vs its → a < s.heap.objs.size → a ≠ P → At 0 (s.heap.push o) →
      (∀ A' : Around, A'.handled = none → Walks X.prog X.w A' s.heap.objs.size [s.heap.objs.size, a] [s.heap.objs.size] its.toArray.size (fun i v => its.toArray[i]? = some v) At) →
      (∀ (A' : Around) (es : List Expr) (k : Nat) (pos : Pos) (j : Nat) (T : Addr) (s' : Shared) (Q : Unit → Shared → Prop) (E : Value → Shared → Prop), At j s'.heap → Q () s' → wpAny (model X.prog X.w) A' (letOwnedTupleGo (.Tuple es k pos) (.ref s.heap.objs.size) (.ref T)) Q E s') →
      Begun X s P ps o := by
    intro its o At r ha haP a0 W go
    obtain ⟨loc, held, hl⟩ := pairs_in I hp r
    have ln : its.toArray.size = ps.length := by rw [List.size_toArray, ← r.length, hp.1]
    have below : ∀ m, m < ps.length → loc m < s.heap.objs.size ∧ loc m ≠ P := fun m hm => by
      obtain ⟨_, ⟨ob, e, _, n, d⟩, _⟩ := hl m hm
      exact ⟨Heap.lt_size e, notP _ _ _ _ e d⟩
    refine ⟨_, _, _, _, fun A' hA => (asTuples (ln ▸ W A' hA) loc held (fun j v hj e => ?_) (fun j hj => Nat.ne_of_lt (below j hj).1) (fun es k pos j T s' Q E => go A' es k pos j T s' Q E)).bound, fun j xs hj e => ?_, ⟨a0, fun m hm => ?_⟩, fun b hb => ?_⟩
    · have e2 : its[j]? = some v := by simpa using e
      rw [(hl j hj).1] at e2
      exact (Option.some.inj e2).symm
    · obtain ⟨_, _, p, ta, tb', e1, e2⟩ := hl j hj
      exact ⟨p, ta, tb', e1, (show xs = held j from e).trans e2⟩
    · obtain ⟨_, ⟨ob, e, rest⟩, _⟩ := hl m hm
      exact ⟨ob, Heap.get?_push_of_some _ e, rest⟩
    · rcases List.mem_append.mp hb with z | z
      · rcases List.mem_cons.mp z with e | e
        · rw [e]; exact ⟨Nat.lt_succ_self _, newP⟩
        · rw [List.mem_singleton.mp e]; exact ⟨Nat.lt_succ_of_lt ha, haP⟩
      · obtain ⟨m, hm, e⟩ := List.mem_map.mp z
        obtain ⟨h1, h2⟩ := below m (List.mem_range.mp hm)
        rw [← e]; exact ⟨Nat.lt_succ_of_lt h1, h2⟩
  rcases hS with hS | hS
  · obtain ⟨its, r, hl, _⟩ := I.list hS
    obtain ⟨o, e, c, n, d⟩ := hl.isList
    refine wpAny_pyIter_list hl.isList (fin _ (mk its _ _ r (Heap.lt_size e) (notP _ _ _ _ e d) ⟨⟨_, Heap.get?_push_size _ rfl, rfl, rfl⟩, ⟨o, Heap.get?_push_of_some _ e, c, n, d⟩⟩ (fun A' hA => Walks.list hA _ a (Nat.ne_of_lt (Heap.lt_size e)) its.toArray) ?_))
    exact fun A' es k pos j T s' Q E at_ q => wpAny_letOwnedTupleGo_listiter at_.1 q
  · obtain ⟨its, r, ⟨o, e, c, n, d⟩, _⟩ := I.tuple hS
    refine wpAny_pyIter_tuple (items := its.toArray) ⟨o, e, c, n, d⟩ (fin _ (mk its _ _ r (Heap.lt_size e) (notP _ _ _ _ e d) ⟨⟨_, Heap.get?_push_size _ rfl, rfl, rfl⟩, ⟨o, Heap.get?_push_of_some _ e, c, n, d⟩⟩ (fun A' hA => Walks.tuple hA _ a (Nat.ne_of_lt (Heap.lt_size e)) its.toArray) ?_))
    exact fun A' es k pos j T s' Q E at_ q => letGo_tupleiter at_.1 q

/-- the expression's code object is made, or found: the table may grow, all else stands -/
theorem code_there {c P : Addr} {gpos : Pos} {qual : Str} {sc : Scope} {tb : Array Value} {Q' : Value → Shared → Prop} {E : Value → Shared → Prop} (hcode : X.env.code = .ref c) (C : PySem.W.CodeHd s.heap c P) (hP : s.heap.get? P = some { cls := .none, data := .fields tb }) (ok : TriplesOk tb.toList)
    (fin : ∀ (code : Value) (h' : Heap) (tk : Nat) (more : Array Value), Heap.ExtBut P s.heap h' → s.heap.objs.size ≤ h'.objs.size → h'.get? P = some { cls := .none, data := .fields (tb ++ more) } → TriplesOk (tb ++ more).toList → Q' code { s with heap := h', toks := tk }) :
    wpAny (model X.prog X.w) X.A (genexprCode X.env gpos qual sc) Q' E s := by
  cases found : codeAmong gpos tb.toList with
  | some old =>
    refine wpAny_genexprCode_hit hcode (C.code hP ok) found ?_
    have e : tb ++ #[] = tb := by simp
    exact fin old s.heap s.toks #[] (Heap.ExtBut.refl _ _) (Nat.le_refl _) (by rw [e]; exact hP) (by rw [e]; exact ok)
  | none =>
    refine wpAny_genexprCodeX hcode (C.code hP ok) (C.tab hP) found fun c' h' tk ext le lt isC _ tab _ => ?_
    obtain ⟨_, _, _, _, _, _, _, _, _, _, _, _, _, _, _, _, _, _, _, okT, _⟩ := isC
    exact fin _ h' tk _ ext (Nat.le_trans le (Nat.le_of_lt lt)) tab.2 okT

/-- the element at a pair of whole numbers: what it gives, wherever the expression runs later -/
def EltAt (X : Cx) (s₁ : Shared) (P : Addr) (sc : Scope) (xa xb : Str) (elt : Expr) (Gives : Int → Int → Value → Prop) : Prop :=
  ∀ (L : Addr) (code : Value) (A' : Around) (E' : Value → Shared → Prop) (a b : Int) (ta tb : Tok) (s₂ : Shared) (m : Str → Option Value), A'.handled = none →
    (∀ x o, x ≠ P → s₁.heap.get? x = some o → s₂.heap.get? x = some o) → s₂.heap.Ns L m → m xa = some (.int a ta) → m xb = some (.int b tb) →
    wpAny (model X.prog X.w) A' (eval elt (genEnv sc (cloFrom X.env.cells sc.names []) L code builtinsNs X.env)) (fun y s₃ => Gives a b y ∧ Keeps s₂ s₃) E' s₂

/-- the generator at g, in the state s₅, before its first item; H₁: what was held when it was made -/
def Fresh (X : Cx) (pins : List (Addr × Obj)) (σ : L2.St) (H₁ : Hp) (P : Addr) (ps : List (Int × Int)) (Gives : Int → Int → Value → Prop) (g : Addr) (s₅ : Shared) : Prop :=
  ∃ (foot writes : List Addr) (Gens : Array GenState → Array GenState → Prop) (Item : Nat → Value → Prop) (At : Nat → Shared → Prop),
    (WalksS X.prog X.w X.A.in1 g foot writes Gens ps.length Item At ∧ At 0 s₅ ∧ ∀ b ∈ foot, b < s₅.heap.objs.size) ∧
    (∀ j v, Item j v → ∃ p, ps[j]? = some p ∧ Gives p.1 p.2 v) ∧ ∀ s₆, Moved writes Gens s₅ s₆ → ∃ H₂, Tabbed P H₁ H₂ ∧ Inv X pins σ H₂ s₆

theorem gen_made {c P : Addr} {elt iter : Expr} {xa xb : Str} {pa pb pt gpos : Pos} {kt : Nat} {sc : Scope} {te : TE} {k : Nat} {Q' : Value → Shared → Prop} {Want : List (Int × Int) → Hp → Prop} {Gives : Int → Int → Value → Prop}
    (room : Room k X.A) (TB : TabB X.base X.mg c P) (hcode : X.env.code = .ref c) (own : OwnScope X.env sc xa xb) (walked : PE X iter te) (plain : ∀ v, genFold iter X.env v = pure v) (I : Inv X pins σ H s)
    (each : ∀ s₁ H₁, Inv X pins σ H₁ s₁ → TabG H₁ P → EltAt X s₁ P sc xa xb elt Gives)
    (h : te σ H fun v H₁ => ∃ (a : Addr) (vs : List V) (ps : List (Int × Int)), v = .ref a ∧ (SqL X.K H₁ a vs ∨ SqT X.K H₁ a vs) ∧ Prs H₁ vs ps ∧ TabG H₁ P ∧ Want ps H₁)
    (fin : ∀ ps H₁ g s₅, Want ps H₁ → Fresh X pins σ H₁ P ps Gives g s₅ → Q' (.ref g) s₅) :
    wpAny (model X.prog X.w) X.A (eval (.GeneratorExp elt [⟨.Tuple [.Name xa pa, .Name xb pb] kt pt, iter, [], 0⟩] sc gpos) X.env) Q' X.xe s := by
  obtain ⟨⟨o1, o2, o3⟩, ⟨o4, o5, o6⟩, o7, o8⟩ := own
  have deep : X.A.depth < recursionLimit := by have := room.dp; omega
  refine wpAny_GeneratorExp_walksQT room.hd o2 (closure_ok o8) o7 o4 o5 o6 o3 o1 deep (thn (walked.run pins s σ H _ I h) fun u s₁ had => ?_) plain
  obtain ⟨_, H₁, I₁, rel, a, vs, ps, rfl, hS, hp, ⟨tb, hP, ok⟩, want⟩ := had
  cases rel
  have tabAt : s₁.heap.get? P = some { cls := .none, data := .fields tb } := I₁.hok P _ hP
  refine begin_pairs I₁ hS hp hP fun o beg => ?_
  obtain ⟨foot, Hold, At, Mid, W, holds, at0, low⟩ := beg
  have statics : cStatics < s₁.heap.objs.size ∧ cStatics ≠ P := by
    obtain ⟨_, ns, _⟩ := I₁.nolimit
    refine ⟨ns.lt, fun z => ?_⟩
    obtain ⟨ob, _, _, e, d, _⟩ := ns
    rw [z, tabAt] at e
    rw [← Option.some.inj e] at d
    cases d
  have quiet : (s₁.heap.push o).NoLimit := I₁.nolimit.push o
  refine ⟨quiet, code_there hcode (TB.code.keeps fun b u e => Heap.get?_push_of_some _ (I₁.bk b u e)) (Heap.get?_push_of_some _ tabAt) ok fun code h₃ tk more ext le tab₃ ok₃ => ?_⟩
  rw [Heap.size_push] at le
  have stays : ∀ b u, b ≠ P → s₁.heap.get? b = some u → h₃.get? b = some u := fun b u hb e => ext b u hb (Heap.get?_push_of_some _ e)
  obtain ⟨bm, ob, f1, f2, f3, f4, f5, f6, f7, f8⟩ := TB.bm
  have globals : Heap.Ns h₃ X.env.globals X.mg := by
    rw [I₁.ok.glob]
    exact ((I₁.mod.glob.keeps I₁.bk).push o).extBut ext TB.gP
  refine wpAny_builtinsFor (m := X.mg) globals f1 f2 (stays bm ob f4 (I₁.bk bm ob f5)) f6 f7 f8 ?_
  have later : ∀ b u, s₁.heap.get? b = some u → b ∉ [h₃.objs.size, s₁.heap.objs.size] := fun b u e z => by
    have lt := Heap.lt_size e
    rcases List.mem_cons.mp z with z' | z'
    · exact Nat.lt_irrefl _ (Nat.lt_of_lt_of_le (z' ▸ lt) (Nat.le_of_succ_le le))
    · exact Nat.lt_irrefl _ (List.mem_singleton.mp z' ▸ lt)
  refine ⟨_, _, _, _, _, _, _, fun _ => true, fun i y => i < ps.length → ∃ p, ps[i]? = some p ∧ Gives p.1 p.2 y, rfl, W, fun i xs hx => ?_, ?_, fun b hb => Nat.lt_of_lt_of_le (low b hb).1 le, quiet.extBut ext statics.2, fun z => Nat.ne_of_lt statics.1 (List.mem_singleton.mp z), fun ref kept => ⟨?_, ?_⟩, ?_⟩
  · obtain ⟨p, ta, tb', _, e⟩ := holds i xs hx.1 hx.2
    exact ⟨_, _, e⟩
  · exact (W X.A room.hd).frame _ _ _ at0 fun b hb u e => ext b u (low b hb).2 e
  · intro A' E' i va vb s₂ m _ _ _ _ _ _
    rw [List.forIn_nil]
    exact wpAny_pure ⟨rfl, _, _, rfl, fun _ _ e => e⟩
  · intro A' E' i va vb s₂ m calm hx _ ns ea eb still
    obtain ⟨p, ta, tb', ep, e⟩ := holds i _ hx.1 hx.2
    have e1 : va = .int p.1 ta := by have z := congrArg (·[0]?) e; simpa using z
    have e2 : vb = .int p.2 tb' := by have z := congrArg (·[1]?) e; simpa using z
    subst e1 e2
    refine wpAny_mono (each s₁ H₁ I₁ ⟨tb, hP, ok⟩ _ code A' E' p.1 p.2 ta tb' s₂ m calm (fun b u hb q => ?_) ns ea eb) (fun y s₃ r => ⟨fun _ => ⟨p, ep, r.1⟩, r.2⟩) fun _ _ q => q
    have q3 := stays b u hb q
    exact still b (List.mem_range.mpr (Heap.lt_size q3)) (fun z => later b u q (List.mem_cons_of_mem _ z)) u (kept b u q3)
  · intro g h₅ tk₅ gs bare above size kept W₅ at₅
    rw [GxR.passing_true, List.length_range] at W₅
    have above' : h₃.objs.size < g := above
    have size' : h₅.objs.size = g + 1 := size
    refine fin ps H₁ g _ want ⟨_, _, _, _, _, ⟨W₅.in4_1, at₅, fun b hb => ?_⟩, fun j v it => ?_, fun s₆ mv => ?_⟩
    · show b < h₅.objs.size
      rw [size']
      rcases List.mem_cons.mp hb with eg | e
      · rw [eg]; exact Nat.lt_succ_self g
      · refine Nat.lt_succ_of_le (Nat.le_trans ?_ (Nat.le_of_lt above'))
        rcases List.mem_cons.mp e with e' | e'
        · rw [e']; exact Nat.le_refl _
        · exact Nat.le_of_lt (List.mem_range.mp e')
    · obtain ⟨i, ei, hg⟩ := it
      have lt : j < ps.length := by
        have z := (List.getElem?_eq_some_iff.mp ei).1
        rwa [List.length_range] at z
      rw [List.getElem?_range lt] at ei
      cases ei
      exact hg lt
    · have all : ∀ b u, b ≠ P → s₁.heap.get? b = some u → s₆.heap.get? b = some u := fun b u hb e => mv.heap b u (later b u e) (kept b u (stays b u hb e))
      have tab₆ := mv.heap P _ (later P _ tabAt) (kept P _ tab₃)
      have J := inv_tab (more := more) (d' := s₆.drawn) (t' := s₆.toks) I₁ hP all tab₆ (AllBare.movedS (I₁.bare.push bare) mv)
      rw [sh_eta s₁ s₆ mv.os] at J
      exact ⟨_, ⟨⟨tb ++ more, upd_same, ok₃⟩, fun b hb => upd_ne hb⟩, J⟩

/-- the sum of g over the pairs -/
def sumP (g : Int → Int → Int) (ps : List (Int × Int)) : Int := (ps.map fun p => g p.1 p.2).sum
theorem preSum_is (g : Int → Int → Int) (ps : List (Int × Int)) (val : Nat → Int) (h : ∀ i p, ps[i]? = some p → val i = g p.1 p.2) : ∀ n, n ≤ ps.length → preSum val n = sumP g (ps.take n)
  | 0, _ => rfl
  | n + 1, hn => by
    have e : ps[n]? = some ps[n] := List.getElem?_eq_getElem hn
    show preSum val n + val n = _
    rw [preSum_is g ps val h n (by omega), h n _ e]
    unfold sumP
    rw [List.take_add_one, e, List.map_append, List.sum_append]
    show _ = _ + (g ps[n].1 ps[n].2 + 0)
    rw [Int.add_zero]
/-- what the reading of sum(..), any(..) over pairs asks: what is captured (Cap), the pairs, the table; then the answer -/
def tOver {α : Type} (K : PySem.W.Frag) (P : Addr) (Cap : L2.St → α → Prop) (ans : α → List (Int × Int) → V) (te : TE) : TE := fun σ H Q => ∃ x : α, Cap σ x ∧ te σ H fun v H₁ => ∃ (a : Addr) (vs : List V) (ps : List (Int × Int)), v = .ref a ∧ (SqL K H₁ a vs ∨ SqT K H₁ a vs) ∧ Prs H₁ vs ps ∧ TabG H₁ P ∧
  ∀ H₂, Tabbed P H₁ H₂ → Q (ans x ps) H₂
/-- how a built-in takes a generator over pairs -/
def Takes2 (X : Cx) (name : String) (Gives : Int → Int → Value → Prop) (ans : List (Int × Int) → V) : Prop :=
  ∀ (pins : List (Addr × Obj)) (σ : L2.St) (P : Addr) (ps : List (Int × Int)) (H₁ : Hp) (gen : Addr) (s₅ : Shared) (Q : VK), Fresh X pins σ H₁ P ps Gives gen s₅ → (∀ H₂, Tabbed P H₁ H₂ → Q (ans ps) H₂) →
    wpAny (model X.prog X.w) X.A (call (.builtin name) [.ref gen]) (EP X pins σ Q) X.xe s₅
theorem pe_over {α : Type} {name : String} {x : Str} {c P : Addr} {elt iter : Expr} {xa xb : Str} {pa pb pt p pos gpos : Pos} {kt : Nat} {sc : Scope} {Cap : L2.St → α → Prop} {Gives : α → Int → Int → Value → Prop} {ans : α → List (Int × Int) → V} {te : TE} {k : Nat} (takes : ∀ y, Takes2 X name (Gives y) (ans y))
    (room : Room k X.A) (glob : Gl X x) (free : X.mg x = none) (bltn : bootBuiltins x = some (.builtin name)) (TB : TabB X.base X.mg c P) (hcode : X.env.code = .ref c) (own : OwnScope X.env sc xa xb) (walked : PE X iter te)
    (each : ∀ pins σ s₁ H₁ y, Inv X pins σ H₁ s₁ → TabG H₁ P → Cap σ y → EltAt X s₁ P sc xa xb elt (Gives y)) (plain : ∀ v, genFold iter X.env v = pure v) (n1 : x ≠ "__name__" := by decide) (n2 : (x == ("__debug__" : Str)) = false := by decide)
    (one : starEach [.GeneratorExp elt [⟨.Tuple [.Name xa pa, .Name xb pb] kt pt, iter, [], 0⟩] sc gpos] X.env = [(false, eval (.GeneratorExp elt [⟨.Tuple [.Name xa pa, .Name xb pb] kt pt, iter, [], 0⟩] sc gpos) X.env)] := by rfl) :
    PE X (.Call (.Name x p) [.GeneratorExp elt [⟨.Tuple [.Name xa pa, .Name xb pb] kt pt, iter, [], 0⟩] sc gpos] [] pos) (tOver X.K P Cap ans te) := by
  constructor
  intro pins s σ H Q I h
  obtain ⟨y, cap, h⟩ := h
  refine wpAny_Call_Name_kw (ld_blt I glob free bltn (callWith_builtin1 ?_ one (by rfl)) n1 n2)
  rw [one]
  refine Calls.spliced_cons (gen_made (Want := fun ps H₁ => ∀ H₂, Tabbed P H₁ H₂ → Q (ans y ps) H₂) (Gives := Gives y) room TB hcode own walked plain I (fun s₁ H₁ J g => each pins σ s₁ H₁ y J g cap) h fun ps H₁ gen s₅ want fresh => Calls.spliced_nil ?_)
  exact takes y pins σ P ps H₁ gen s₅ Q fresh want
theorem takes_sum (g : Int → Int → Int) : Takes2 X "sum" (fun a b y => ∃ t, y = .int (g a b) t) (fun ps => .int (sumP g ps)) := by
  intro pins σ P ps H₁ gen s₅ Q fresh want
  obtain ⟨foot, writes, Gens, Item, At, ⟨W, a0, low⟩, items, behind⟩ := fresh
  let val : Nat → Int := fun i => (ps[i]?.map fun p => g p.1 p.2).getD 0
  have hv : ∀ i p, ps[i]? = some p → val i = g p.1 p.2 := fun i p e => by show (ps[i]?.map _).getD 0 = _; rw [e]; rfl
  refine call_sum_walkAnyS (W.self 0 _ _ _ a0 ⟨gen, foot, writes, Gens, ps.length, Item, At, val, rfl, W, a0, low, fun i v it => ?_, fun s₆ t mv => ?_⟩)
  · obtain ⟨p, e, t, ev⟩ := items i v it
    exact ⟨t, by rw [hv i p e]; exact ev⟩
  · obtain ⟨H₂, tabbed, J⟩ := behind s₆ mv
    refine ⟨.int (preSum val ps.length), H₂, J, ⟨t, rfl⟩, ?_⟩
    rw [preSum_is g ps val hv ps.length (Nat.le_refl _), List.take_length]
    exact want H₂ tabbed
def anyP (g : Int → Int → Bool) (ps : List (Int × Int)) : Bool := ps.any fun p => g p.1 p.2
theorem any_is {α : Type} (ps : List α) (f : α → Bool) (tr : Nat → Bool) (h : ∀ i p, ps[i]? = some p → tr i = f p) : (List.range ps.length).any tr = ps.any f := by
  rw [Bool.eq_iff_iff, List.any_eq_true (l := List.range _), List.any_eq_true]
  constructor
  · rintro ⟨i, hi, e⟩
    have lt := List.mem_range.mp hi
    exact ⟨ps[i], List.getElem_mem lt, by rw [← h i _ (List.getElem?_eq_getElem lt)]; exact e⟩
  · rintro ⟨p, hp, e⟩
    obtain ⟨i, lt, rfl⟩ := List.getElem_of_mem hp
    exact ⟨i, List.mem_range.mpr lt, by rw [h i _ (List.getElem?_eq_getElem lt)]; exact e⟩
theorem takes_any (g : Int → Int → Bool) : Takes2 X "any" (fun a b y => y = .bool (g a b)) (fun ps => .bl (anyP g ps)) := by
  intro pins σ P ps H₁ gen s₅ Q fresh want
  obtain ⟨foot, writes, Gens, Item, At, ⟨W, a0, low⟩, items, behind⟩ := fresh
  let tr : Nat → Bool := fun i => (ps[i]?.map fun p => g p.1 p.2).getD false
  have ht : ∀ i p, ps[i]? = some p → tr i = g p.1 p.2 := fun i p e => by show (ps[i]?.map _).getD false = _; rw [e]; rfl
  refine call_any_walkS (W.self 0 _ _ _ a0 ⟨gen, foot, writes, Gens, ps.length, Item, At, tr, rfl, W, a0, fun i v s' Q' E' it q => ?_, fun s₆ mv => ?_⟩)
  · obtain ⟨p, e, rfl⟩ := items i v it
    rw [ht i p e] at q
    exact wpAny_truthy_bool q
  · obtain ⟨H₂, tabbed, J⟩ := behind s₆ mv
    refine ⟨.bl _, H₂, J, rfl, ?_⟩
    rw [any_is ps (fun p => g p.1 p.2) tr ht]
    exact want H₂ tabbed
/-- a whole number that the expression captures, as its cell has it -/
theorem captured {i : Nat} {y : Str} {n : Int} {P : Addr} (I : Inv X pins σ H s) (hN : X.N[i]? = some y) (hk : X.env.scope.names.lookup y = some .cell) (hv : σ[i]? = some (some (.int n))) (g : TabG H P) :
    ∃ c t, X.env.cells.lookup y = some c ∧ s.heap.IsCell c (some (.int n t)) ∧ c ≠ P := by
  obtain ⟨tb, hP, _⟩ := g
  obtain ⟨m, _, look⟩ := I.loc
  obtain ⟨u, ⟨t, rfl⟩, l⟩ := look i y _ hN hv (.inr (.inl hk))
  rcases l with ⟨z, _⟩ | ⟨_, c, e, o, ho, hd⟩
  · rw [show X.env.kindOf y = some .cell from hk] at z
    cases z
  · refine ⟨c, t, e, ⟨o, ho, hd⟩, fun z => ?_⟩
    rw [z, I.hok P _ hP] at ho
    rw [← Option.some.inj ho] at hd
    cases hd
/-- the names of the module and the built-in ones, where the expression runs -/
theorem names_in {P : Addr} {s₂ : Shared} (I : Inv X pins σ H s) (g : TabG H P) (gP : mainGlobals ≠ P) (kept : ∀ x o, x ≠ P → s.heap.get? x = some o → s₂.heap.get? x = some o) :
    s₂.heap.Ns mainGlobals X.mg ∧ ∃ mb, s₂.heap.Ns builtinsNs mb ∧ ∀ x : Str, x ≠ "__name__" → mb x = bootBuiltins x := by
  obtain ⟨tb, hP, _⟩ := g
  obtain ⟨mb, b1, b2⟩ := I.mod.blt
  have at_ : ∀ b m, b ≠ P → s.heap.Ns b m → s₂.heap.Ns b m := fun b m hb ⟨o, es, ep, ho, r⟩ => ⟨o, es, ep, kept b o hb ho, r⟩
  refine ⟨at_ _ _ gP (I.mod.glob.keeps I.bk), mb, at_ _ _ (fun z => ?_) (b1.keeps I.bk), b2⟩
  obtain ⟨o, es, ep, ho, hd, _⟩ := b1.keeps I.bk
  rw [z, I.hok P _ hP] at ho
  rw [← Option.some.inj ho] at hd
  cases hd
end
end GP

namespace TK
open PySem PySem.Spec PyProof.Rows L2 GP
def topS (i : Nat) : Stmt := PySem.Challenge.pw_tinrecall_k36_none_shown_of_any_form.main.body.getD i (.Pass ⟨0, 0, 0, 0⟩)

/-- the draws' state: its dict at d, its cells at c -/
structure StAt (H : Hp) (d c : Addr) (t : Int) : Prop where
  dict : H d = some (.dK [(.inr "cells", .ref c), (.inr "turn", .int t)])
  cells : ∃ cs : List Int, H c = some (.lst (cs.map V.int)) ∧ cs ≠ [] ∧ cs.length ≤ 63
  pos : 0 ≤ t
theorem StAt.ne {H : Hp} {d c : Addr} {t : Int} (h : StAt H d c t) : d ≠ c := by
  obtain ⟨cs, hc, _⟩ := h.cells
  exact ne_of h.dict hc (by intro z; cases z)
/-- all but the state is as it was -/
def Kp (d c : Addr) (H H' : Hp) : Prop := ∀ b o, b ≠ d → b ≠ c → H b = some o → H' b = some o
theorem Kp.refl (d c : Addr) (H : Hp) : Kp d c H H := fun _ _ _ _ h => h
theorem Kp.trans {d c : Addr} {H H1 H2 : Hp} (a : Kp d c H H1) (b : Kp d c H1 H2) : Kp d c H H2 := fun x o h1 h2 h => b x o h1 h2 (a x o h1 h2 h)

theorem ixN_of {n j : Nat} (h : j < n) : ixN n (j : Int) = some j := by
  unfold ixN
  rw [if_pos (Int.natCast_nonneg j), if_pos (by omega), Int.toNat_natCast]
def spTake : Sp := fun vs H Q _ => ∃ (d c : Addr) (t m : Int), vs = [.ref d, .int m] ∧ StAt H d c t ∧ t < 2 ^ 60 ∧ 0 < m ∧ m.natAbs < 2 ^ 250 ∧
  ∀ r H', 0 ≤ r → r < m → StAt H' d c (t + 1) → Kp d c H H' → Q (.int r) H'

theorem same_upd {H : Hp} {p : Addr} {o : HO} (h : H p = none) : Same H (upd H p o) := fun b x e => by
  rw [upd_ne (ne_of_none e h)]
  exact e
theorem cut_front (xs : List V) (m : Nat) : cutV xs none (some (m : Int)) = xs.take m := by
  unfold cutV
  rw [HT.sIx_none, HT.sIx_nat]
  show List.take (min m xs.length - 0) (xs.drop 0) = xs.take m
  rw [Nat.sub_zero, List.drop_zero]
  by_cases h : m ≤ xs.length
  · rw [Nat.min_eq_left h]
  · rw [Nat.min_eq_right (by omega), List.take_length, List.take_of_length_le (by omega)]
theorem dp_ints {K : PySem.W.Frag} {H : Hp} : ∀ ns : List Int, DpAll K H (ns.map V.int) (ns.map PyData.int)
  | [] => .nil
  | n :: r => .cons (.int n) (dp_ints r)
theorem lay_ints : ∀ ns : List Int, PyData.canLayAll0 (ns.map PyData.int) = true
  | [] => by simp only [List.map_nil, PyData.canLayAll0]
  | n :: r => by
    rw [List.map_cons, PyData.canLayAll0, lay_ints r]
    simp [PyData.canLay0]
theorem depth_ints : ∀ ns : List Int, PyData.depthAll (ns.map PyData.int) = 0
  | [] => by simp only [List.map_nil, PyData.depthAll]
  | n :: r => by
    rw [List.map_cons, PyData.depthAll, depth_ints r]
    simp [PyData.depth]
theorem shaped_ints (ns : List Int) : SeqAt.shaped (PyData.list (ns.map PyData.int)) = true := by
  unfold SeqAt.shaped
  rw [PyData.canLay0, lay_ints, PyData.depth, depth_ints]
  rfl
theorem eqv_nil (n : Int) (r : List Int) : PyData.eqv (PyData.list ((n :: r).map PyData.int)) (PyData.list []) = false := by
  simp [PyData.eqv, PyData.eqvAll]
theorem eqv_nil0 : PyData.eqv (PyData.list (([] : List Int).map PyData.int)) (PyData.list []) = true := by
  simp [PyData.eqv, PyData.eqvAll]

/-- a def of the text that keeps a promise, as its callers see it -/
def Cal (P : Program) (w : World) (K : PySem.W.Frag) (mg : Str → Option Value) (base : Heap) (k : Nat) (x : Str) (ps : List Str) (sp : Sp) : Prop :=
  ∃ f fd, FnOk P w K mg base CX0 k f fd ps sp ∧ mg x = some (.ref f) ∧ PySem.W.keepIn K (.ref f) = true ∧ Binds K fd ps []
theorem pe_own {X : Cx} {k : Nat} {x : Str} {ps : List Str} {sp : Sp} {e : Expr} {es : List Expr} {t : TA} {p pos : Pos} (C : Cal X.prog X.w X.K X.mg X.base k x ps sp) (hr : Room k X.A) (hg : Gl X x) (ha : PA X (e :: es) t)
    (dbg : (x == ("__debug__" : Str)) = false := by decide) (one : starEach (e :: es) X.env = (false, eval e X.env) :: starEach es X.env := by rfl) (star : (backTo pos (starEach es X.env)).any (·.1) = false := by rfl) :
    PE X (.Call (.Name x p) (e :: es) [] pos) (tCall sp [] E0 t) := by
  obtain ⟨f, fd, F, hm, hk, hb⟩ := C
  exact pe_call F hr hg hm hk hb .nil pass0 ha dbg one star
theorem StAt.same {H H' : Hp} {d c : Addr} {t : Int} (h : StAt H d c t) (s : Same H H') : StAt H' d c t :=
  ⟨s _ _ h.dict, let ⟨cs, e, r⟩ := h.cells; ⟨cs, s _ _ e, r⟩, h.pos⟩
theorem Kp.same {H H' : Hp} (d c : Addr) (s : Same H H') : Kp d c H H' := fun b o _ _ e => s b o e
/-- what is made behind the state stays -/
theorem Kp.at {H H' : Hp} {d c a : Addr} {t : Int} {o : HO} (k : Kp d c H H') (S : StAt H d c t) (e : H a = some o) (h1 : ∀ kvs, o ≠ .dK kvs) (h2 : ∀ ns : List Int, o ≠ .lst (ns.map V.int)) : H' a = some o := by
  obtain ⟨cs, ec, _⟩ := S.cells
  refine k a o (fun z => ?_) (fun z => ?_) e
  · rw [z, S.dict] at e
    exact h1 _ (Option.some.inj e).symm
  · rw [z, ec] at e
    exact h2 _ (Option.some.inj e).symm
theorem StAt.upd {H : Hp} {d c l : Addr} {t : Int} {o : HO} (S : StAt H d c t) (h1 : l ≠ d) (h2 : l ≠ c) : StAt (L2.upd H l o) d c t := by
  refine ⟨by rw [upd_ne h1.symm]; exact S.dict, ?_, S.pos⟩
  obtain ⟨cs, ec, r⟩ := S.cells
  exact ⟨cs, by rw [upd_ne h2.symm]; exact ec, r⟩

theorem _root_.GP.Prs.same {H H' : Hp} {vs : List V} {ps : List (Int × Int)} (h : Prs H vs ps) (s : Same H H') : Prs H' vs ps :=
  ⟨h.1, fun i p e => let ⟨a, e1, e2⟩ := h.2 i p e; ⟨a, e1, s _ _ e2⟩⟩
theorem _root_.GP.Prs.kp {H H' : Hp} {d c : Addr} {t : Int} {vs : List V} {ps : List (Int × Int)} (h : Prs H vs ps) (S : StAt H d c t) (k : Kp d c H H') : Prs H' vs ps :=
  ⟨h.1, fun i p e => let ⟨a, e1, e2⟩ := h.2 i p e; ⟨a, e1, k.at S e2 (fun _ z => nomatch z) (fun _ z => nomatch z)⟩⟩
theorem _root_.GP.Prs.upd_lst {H : Hp} {l : Addr} {xs : List V} {o : HO} {vs : List V} {ps : List (Int × Int)} (h : Prs H vs ps) (hl : H l = some (.lst xs)) : Prs (upd H l o) vs ps :=
  ⟨h.1, fun i p e => let ⟨a, e1, e2⟩ := h.2 i p e; ⟨a, e1, by rw [upd_ne (ne_of e2 hl (fun z => nomatch z))]; exact e2⟩⟩
theorem _root_.GP.Prs.nil {H : Hp} : Prs H [] [] := ⟨rfl, fun i p e => by simp at e⟩
theorem _root_.GP.Prs.snoc {H : Hp} {a : Addr} {x y : Int} {vs : List V} {ps : List (Int × Int)} (h : Prs H vs ps) (e : H a = some (.tup [.int x, .int y])) : Prs H (vs ++ [.ref a]) (ps ++ [(x, y)]) := by
  refine ⟨by simp [h.1], fun i p ep => ?_⟩
  by_cases hi : i < ps.length
  · rw [List.getElem?_append_left hi] at ep
    obtain ⟨b, e1, e2⟩ := h.2 i p ep
    exact ⟨b, by rw [List.getElem?_append_left (by rw [h.1]; exact hi)]; exact e1, e2⟩
  · rw [List.getElem?_append_right (by omega)] at ep
    have hz : i - ps.length = 0 := by
      cases hq : i - ps.length with
      | zero => rfl
      | succ n => rw [hq] at ep; simp at ep
    rw [hz] at ep
    have ep' : (x, y) = p := by simpa using ep
    subst ep'
    refine ⟨a, ?_, e⟩
    rw [List.getElem?_append_right (by rw [h.1]; omega), h.1, hz]
    rfl
/-- rising stretches with gaps, from lo on -/
def Ris : Int → List (Int × Int) → Prop
  | _, [] => True
  | lo, p :: r => lo ≤ p.1 ∧ p.1 ≤ p.2 ∧ Ris (p.2 + 2) r
theorem Ris.snoc : ∀ {lo : Int} {ps : List (Int × Int)} {a b : Int}, Ris lo ps → lo ≤ a → (∀ p ∈ ps, p.2 + 2 ≤ a) → a ≤ b → Ris lo (ps ++ [(a, b)])
  | lo, [], a, b, _, h1, _, h3 => ⟨h1, h3, True.intro⟩
  | lo, p :: r, a, b, h, h1, h2, h3 => ⟨h.1, h.2.1, Ris.snoc h.2.2 (h2 p (List.mem_cons_self ..)) (fun q hq => h2 q (List.mem_cons_of_mem _ hq)) h3⟩
theorem pick2 {x y r : Int} (Pv : Int → Prop) (h0 : 0 ≤ r) (h1 : r < 2) (hx : Pv x) (hy : Pv y) : ∃ v, Pv v ∧ atI [V.int x, V.int y] r = some (.int v) := by
  have : r = 0 ∨ r = 1 := by omega
  rcases this with rfl | rfl
  · exact ⟨x, hx, rfl⟩
  · exact ⟨y, hy, rfl⟩
theorem pick3 {x y z r : Int} (Pv : Int → Prop) (h0 : 0 ≤ r) (h1 : r < 3) (hx : Pv x) (hy : Pv y) (hz : Pv z) : ∃ v, Pv v ∧ atI [V.int x, V.int y, V.int z] r = some (.int v) := by
  have : r = 0 ∨ r = 1 ∨ r = 2 := by omega
  rcases this with rfl | rfl | rfl
  · exact ⟨x, hx, rfl⟩
  · exact ⟨y, hy, rfl⟩
  · exact ⟨z, hz, rfl⟩
/-- a new object stands through the state's change -/
theorem Kp.new {H H' : Hp} {d c l : Addr} {t : Int} {o : HO} (k : Kp d c (upd H l o) H') (S : StAt H d c t) (n : H l = none) : H' l = some o := by
  obtain ⟨cs, ec, _⟩ := S.cells
  exact k l o (ne_of_none S.dict n).symm (ne_of_none ec n).symm upd_same
theorem drop_at {α : Type} {l : List α} {i : Nat} {x : α} (h : l[i]? = some x) : l.drop i = x :: l.drop (i + 1) := by
  obtain ⟨lt, e⟩ := List.getElem?_eq_some_iff.mp h
  rw [← e]
  exact List.drop_eq_getElem_cons lt
theorem prs_at {H : Hp} {vs : List V} {ps : List (Int × Int)} {i : Nat} {x : V} (h : Prs H vs ps) (e : vs[i]? = some x) : ∃ (p : Int × Int) (a : Addr), ps[i]? = some p ∧ x = .ref a ∧ H a = some (.tup [.int p.1, .int p.2]) := by
  obtain ⟨hi, _⟩ := List.getElem?_eq_some_iff.mp e
  have hi2 : i < ps.length := by rw [← h.1]; exact hi
  obtain ⟨a, e1, e2⟩ := h.2 i ps[i] (List.getElem?_eq_getElem hi2)
  rw [e] at e1
  exact ⟨ps[i], a, List.getElem?_eq_getElem hi2, Option.some.inj e1, e2⟩

theorem sumP_append (g : Int → Int → Int) (ps qs : List (Int × Int)) : sumP g (ps ++ qs) = sumP g ps + sumP g qs := by
  unfold sumP
  rw [List.map_append, List.sum_append]
def inB (n a b : Int) : Bool := decide (a ≤ n) && decide (n ≤ b)
theorem Ris.le : ∀ {lo : Int} {ps : List (Int × Int)}, Ris lo ps → ∀ p ∈ ps, lo ≤ p.1 ∧ p.1 ≤ p.2
  | _, [], _, _, hp => nomatch hp
  | lo, q :: r, h, p, hp => by
    rcases List.mem_cons.mp hp with e | e'
    · rw [e]; exact ⟨h.1, h.2.1⟩
    · have := Ris.le h.2.2 p e'
      have := h.2.1
      have := h.1
      omega

/-! ### walks over a list or a tuple -/
def Sq (K : PySem.W.Frag) (H : Hp) (a : Addr) (xs : List V) : Prop := SqL K H a xs ∨ SqT K H a xs
def iSeq (K : PySem.W.Frag) (tl : TE) : TI := fun σ H R => tl σ H fun x H1 => ∃ a, x = .ref a ∧ (((∃ xs, SqL K H1 a xs) ∧ R (Itl K a) H1) ∨ ((∃ xs, SqT K H1 a xs) ∧ R (Itt K a) H1))
/-- the iterator that was just laid is no one's -/
theorem lone {X : Cx} {pins : List (Addr × Obj)} {σ : L2.St} {H : Hp} {s : Shared} (I : Inv X pins σ H s) : ∀ b ∈ [s.heap.objs.size], FpOk X pins H b := fun b hb => by
  rw [List.mem_singleton.mp hb]
  exact I.fpOk (H' := H) (Nat.le_refl _) (I.hok.fresh (Nat.le_refl _))
theorem pi_seq {X : Cx} {tg l : Expr} {tl : TE} (walked : PE X l tl) : PI X tg l (iSeq X.K tl) := by
  constructor
  intro pins s σ H R I h
  refine thn (walked.run pins s σ H _ I h) fun u s1 had => ?_
  obtain ⟨_, H1, J, rel, a, rfl, had⟩ := had
  cases rel
  have laid : ∀ o, Inv X pins σ H1 { s1 with heap := s1.heap.push o } := fun o => J.kept (t' := s1.toks) fun _ _ e => Heap.get?_push_of_some _ e
  rcases had with ⟨⟨xs, hq⟩, q⟩ | ⟨⟨xs, hq⟩, q⟩
  · obtain ⟨its, _, isL, _⟩ := J.list hq
    exact wpAny_pyIter_list isL.isList ⟨_, _, _, _, H1, rfl, laid _, turn_list a _, ⟨_, Heap.get?_push_size _ rfl, rfl, rfl⟩, lone J, q⟩
  · obtain ⟨its, _, isT, _⟩ := J.tuple hq
    exact wpAny_pyIter_tuple (items := its.toArray) isT ⟨_, _, _, _, H1, rfl, laid _, turn_tuple a _, ⟨_, Heap.get?_push_size _ rfl, rfl, rfl⟩, lone J, q⟩
/-- the walked thing stands as it stood -/
def SqTo (K : PySem.W.Frag) (H H' : Hp) (a : Addr) (xs : List V) : Prop := (SqL K H a xs → SqL K H' a xs) ∧ (SqT K H a xs → SqT K H' a xs)
theorem SqTo.refl {K : PySem.W.Frag} {H : Hp} {a : Addr} {xs : List V} : SqTo K H H a xs := ⟨fun h => h, fun h => h⟩
theorem same_t {K : PySem.W.Frag} {H H' : Hp} {a : Addr} {xs : List V} (s : Same H H') (h : SqT K H a xs) : SqT K H' a xs :=
  h.elim (fun r => .inl (r.elim (fun e => .inl (s a _ e)) fun ⟨o, e⟩ => .inr ⟨o, s a _ e⟩)) .inr
theorem SqTo.same {K : PySem.W.Frag} {H H' : Hp} {a : Addr} {xs : List V} (s : Same H H') : SqTo K H H' a xs := ⟨s.seq, same_t s⟩
theorem Sq.same {K : PySem.W.Frag} {H H' : Hp} {a : Addr} {xs : List V} (h : Sq K H a xs) (s : Same H H') : Sq K H' a xs := h.elim (fun h => .inl (s.seq h)) fun h => .inr (same_t s h)
theorem Sq.list {K : PySem.W.Frag} {H : Hp} {a : Addr} {xs : List V} (h : H a = some (.lst xs)) : Sq K H a xs := .inl (SqL.of h)
theorem Sq.tup {K : PySem.W.Frag} {H : Hp} {a : Addr} {xs : List V} (h : H a = some (.tup xs)) : Sq K H a xs := .inr (.inl (.inl h))
abbrev ForR (J : It) (g : TG) (tb : TS) (D : Ends) (σ : L2.St) (H1 : Hp) : Prop := ∃ W : Nat → Nat → L2.St → Hp → Prop, (∃ m, W 0 m σ H1) ∧ ∀ i m σ H, W i m σ H →
  (J.stop i H ∧ D.nx σ H) ∨ (J.go i H ∧ ∃ N : L2.St → Hp → Prop, (∀ σ' H', N σ' H' → ∃ m', m' < m ∧ W (i + 1) m' σ' H') ∧ ∀ x H', J.yld i H x H' → g x σ H' fun σ2 H2 => tb { D with nx := N, ct := N, bk := D.nx } σ2 H2)
theorem for_seq {K : PySem.W.Frag} {a : Addr} {xs : List V} {g : TG} {tb : TS} {D : Ends} {σ : L2.St} {H1 : Hp} (hq : Sq K H1 a xs) (Pv : Nat → L2.St → Hp → Prop) (h0 : Pv 0 σ H1)
    (hl : ∀ i σ H', i ≤ xs.length → Pv i σ H' → SqTo K H1 H' a xs)
    (turn : ∀ i x σ H, xs[i]? = some x → Pv i σ H → g x σ H fun σ2 H2 => tb { D with nx := Pv (i + 1), ct := Pv (i + 1), bk := D.nx } σ2 H2) (fin : ∀ σ H, Pv xs.length σ H → D.nx σ H) :
    ((∃ xs, SqL K H1 a xs) ∧ ForR (Itl K a) g tb D σ H1) ∨ ((∃ xs, SqT K H1 a xs) ∧ ForR (Itt K a) g tb D σ H1) := by
  rcases hq with h | h
  · exact .inl ⟨⟨xs, h⟩, for_list (xs := xs) Pv h0 (fun i σ H' hi p => (hl i σ H' hi p).1 h) turn fin⟩
  · exact .inr ⟨⟨xs, h⟩, for_tup (xs := xs) Pv h0 (fun i σ H' hi p => (hl i σ H' hi p).2 h) turn fin⟩

/-! ### pairs as data -/
def pairD (p : Int × Int) : PyData := .tuple [.int p.1, .int p.2]
theorem dp_prs {K : PySem.W.Frag} {H : Hp} : ∀ {us : List V} {ps : List (Int × Int)}, Prs H us ps → DpAll K H us (ps.map pairD)
  | [], [], _ => .nil
  | [], _ :: _, h => nomatch h.1
  | _ :: _, [], h => nomatch h.1
  | u :: us, p :: ps, h => by
    obtain ⟨a, e1, e2⟩ := h.2 0 p rfl
    have eu : u = .ref a := Option.some.inj e1
    subst eu
    refine .cons (.tup (.inl (.inl e2)) (.cons (.int _) (.cons (.int _) .nil))) (dp_prs ⟨Nat.succ.inj h.1, fun i q e => ?_⟩)
    obtain ⟨b, f1, f2⟩ := h.2 (i + 1) q e
    exact ⟨b, f1, f2⟩
theorem lay_prs : ∀ ps : List (Int × Int), PyData.canLayAll0 (ps.map pairD) = true
  | [] => by simp only [List.map_nil, PyData.canLayAll0]
  | p :: r => by
    rw [List.map_cons, PyData.canLayAll0, lay_prs r]
    simp [pairD, PyData.canLay0, PyData.canLayAll0]
theorem depth_prs : ∀ ps : List (Int × Int), PyData.depthAll (ps.map pairD) ≤ 1
  | [] => by simp only [List.map_nil, PyData.depthAll]; omega
  | p :: r => by
    rw [List.map_cons, PyData.depthAll]  -- a pair, then the rest
    have := depth_prs r
    simp [pairD, PyData.depth, PyData.depthAll]
    omega
theorem shaped_prs (ps : List (Int × Int)) : SeqAt.shaped (PyData.list (ps.map pairD)) = true := by
  unfold SeqAt.shaped
  rw [PyData.canLay0, lay_prs, PyData.depth, Bool.true_and]
  exact decide_eq_true (by have := depth_prs ps; omega)
theorem eqv_prs (ps : List (Int × Int)) : PyData.eqv (PyData.list (ps.map pairD)) (PyData.list (ps.map pairD)) = true := SeqAt.eqv_refl _ (by rw [PyData.canLay0]; exact lay_prs ps)
theorem tabG_tabbed {Pt Pu : Addr} {H H2 : Hp} (g : GxR.TabG H Pu) (x : GxR.Tabbed Pt H H2) : GxR.TabG H2 Pu := by
  by_cases e : Pu = Pt
  · rw [e]; exact x.1
  · obtain ⟨ps, h, r⟩ := g
    exact ⟨ps, by rw [x.2 _ e]; exact h, r⟩

theorem Kp.free {H H' : Hp} {d c l : Addr} {t' : Int} (k : Kp d c H H') (S' : StAt H' d c t') (n : H' l = none) : H l = none := by
  cases e : H l with
  | none => rfl
  | some o =>
    obtain ⟨cs1, ec1, _⟩ := S'.cells
    have z := k l o (ne_of_none S'.dict n).symm (ne_of_none ec1 n).symm e
    rw [n] at z
    cases z
theorem StAt.off {H : Hp} {d c l : Addr} {t : Int} (S : StAt H d c t) (n : H l = none) : l ≠ d ∧ l ≠ c := by
  obtain ⟨cs1, ec1, _⟩ := S.cells
  exact ⟨(ne_of_none S.dict n).symm, (ne_of_none ec1 n).symm⟩
/-- no whole number among these: so it's not the draws' cells -/
def NoInt (xs : List V) : Prop := ∀ x ∈ xs, ∀ i, x ≠ .int i
theorem Kp.lst {H H' : Hp} {d c a : Addr} {t : Int} {xs : List V} (k : Kp d c H H') (S : StAt H d c t) (e : H a = some (.lst xs)) (h : NoInt xs) : H' a = some (.lst xs) := by
  obtain ⟨cs, ec, hne, _⟩ := S.cells
  refine k a _ (fun z => ?_) (fun z => ?_) e
  · rw [z, S.dict] at e
    cases e
  · rw [z, ec] at e
    have e' : cs.map V.int = xs := HO.lst.inj (Option.some.inj e)
    cases cs with
    | nil => exact hne rfl
    | cons n r => exact h (.int n) (e' ▸ List.mem_cons_self ..) n rfl
theorem Kp.tup {H H' : Hp} {d c a : Addr} {t : Int} {xs : List V} (k : Kp d c H H') (S : StAt H d c t) (e : H a = some (.tup xs)) : H' a = some (.tup xs) := k.at S e (fun _ z => nomatch z) (fun _ z => nomatch z)
theorem noInt_strs (xs : List Str) : NoInt (xs.map V.str) := fun x hx i e => by
  obtain ⟨y, _, rfl⟩ := List.mem_map.mp hx
  cases e
theorem noInt_prs {H : Hp} {us : List V} {ps : List (Int × Int)} (h : Prs H us ps) : NoInt us := fun x hx i e => by
  obtain ⟨j, hj, e1⟩ := List.getElem_of_mem hx
  obtain ⟨p, a, _, rfl, _⟩ := prs_at h (by rw [List.getElem?_eq_getElem hj, e1])
  cases e

/-- a text of one sign -/
def sgS (c : Nat) : Str := ⟨#[c]⟩
def sgn (c : Nat) : V := .str (sgS c)
def spNames : Sp := fun vs H Q _ => ∃ (d c : Addr) (t m : Int), vs = [.ref d, .int m] ∧ StAt H d c t ∧ t + 100 < 2 ^ 60 ∧ 0 ≤ m ∧ m ≤ 20 ∧
  ∀ (l : Addr) (xs : List Str) (t' : Int) H', H l = none → H' l = some (.lst (xs.map V.str)) → (∀ x ∈ xs, PyData.strOk x = true) → (xs.length : Int) = m → xs.Nodup → t ≤ t' → t' ≤ t + 20 → StAt H' d c t' → Kp d c H H' → Q (.ref l) H'
theorem join_small {cs : List Nat} (h : cs.length ≤ 10) : ((cs.map sgS).map (·.length)).sum + (cs.map sgS).length * ("" : Str).length ≤ 16777216 := by
  have e : ((cs.map sgS).map (·.length)).sum = cs.length := by
    induction cs with
    | nil => rfl
    | cons c r ih =>
      rw [List.map_cons, List.map_cons, List.sum_cons, ih (by rw [List.length_cons] at h; omega), List.length_cons]
      show 1 + r.length = r.length + 1
      omega
  rw [e, show ("" : Str).length = 0 from rfl, Nat.mul_zero]
  omega
theorem joinL_ones : ∀ cs : List Nat, TL.joinL [] (cs.map fun c => [c]) = cs
  | [] => rfl
  | [_] => rfl
  | c :: c2 :: r => by
    have ih := joinL_ones (c2 :: r)
    show [c] ++ ([] ++ TL.joinL [] ((c2 :: r).map fun c => [c])) = _
    rw [ih]
    rfl
theorem join_ok {cs : List Nat} (h : ∀ c ∈ cs, c < 1114112) : PyData.strOk (Txt.join "" (cs.map sgS)) = true := by
  have e : Txt.join "" (cs.map sgS) = SX.S cs := by
    have z := SX.join_S [] (cs.map fun c => [c])
    rw [joinL_ones, List.map_map] at z
    exact z
  rw [e]
  show (Array.all _ _) = true
  rw [Array.all_eq_true']
  intro c hc
  exact decide_eq_true (h c (by simpa using hc))
/-- words that are unlike at one sign -/
def Spelt (abc : Str) (N fi sv : Int) (js : Nat) (xs : List Str) : Prop := ∀ (k : Nat) x, xs[k]? = some x → ∃ (cs : List Nat) (ch : Nat), x = SX.S cs ∧ cs[js]? = some ch ∧ atI abc.cps.toList ((fi + sv * (k : Int)) % N) = some ch
theorem join_eq (cs : List Nat) : Txt.join "" (cs.map sgS) = SX.S cs := by
  have z := SX.join_S [] (cs.map fun c => [c])
  rw [joinL_ones, List.map_map] at z
  exact z
theorem Spelt.snoc {abc : Str} {N fi sv : Int} {js i : Nat} {xs : List Str} {cs : List Nat} {ch : Nat} (h : Spelt abc N fi sv js xs) (hl : xs.length = i) (e1 : cs[js]? = some ch) (e2 : atI abc.cps.toList ((fi + sv * (i : Int)) % N) = some ch) : Spelt abc N fi sv js (xs ++ [Txt.join "" (cs.map sgS)]) := fun k x e => by
  by_cases hk : k < xs.length
  · rw [List.getElem?_append_left hk] at e
    exact h k x e
  · rw [List.getElem?_append_right (by omega)] at e
    have hz : k - xs.length = 0 := by
      cases hq : k - xs.length with
      | zero => rfl
      | succ n => rw [hq] at e; cases e
    rw [hz] at e
    cases e
    have hki : k = i := by omega
    subst hki
    exact ⟨cs, ch, join_eq cs, e1, e2⟩
theorem Spelt.nodup {abc : Str} {N fi sv : Int} {js : Nat} {xs : List Str} (h : Spelt abc N fi sv js xs) (hN : 0 < N) (hl : (abc.cps.toList.length : Int) = N) (hn : abc.cps.toList.Nodup) (far : ∀ k k' : Nat, k < xs.length → k' < xs.length → (fi + sv * (k : Int)) % N = (fi + sv * (k' : Int)) % N → k = k') : xs.Nodup := by
  refine List.pairwise_iff_getElem.mpr fun i j hi hj hij ex => ?_
  obtain ⟨cs1, c1, e1, f1, g1⟩ := h i xs[i] (List.getElem?_eq_getElem hi)
  obtain ⟨cs2, c2, e2, f2, g2⟩ := h j xs[j] (List.getElem?_eq_getElem hj)
  rw [e1, e2] at ex
  have ec : cs1 = cs2 := SX.S_inj ex
  rw [ec, f2] at f1
  have ecc : c2 = c1 := Option.some.inj f1
  rw [← ecc] at g1
  obtain ⟨a, ha⟩ := Int.eq_ofNat_of_zero_le (Int.emod_nonneg (fi + sv * (i : Int)) (show N ≠ 0 by omega))
  obtain ⟨b, hb⟩ := Int.eq_ofNat_of_zero_le (Int.emod_nonneg (fi + sv * (j : Int)) (show N ≠ 0 by omega))
  have la := Int.emod_lt_of_pos (fi + sv * (i : Int)) hN
  have lb := Int.emod_lt_of_pos (fi + sv * (j : Int)) hN
  rw [ha] at g1 la
  rw [hb] at g2 lb
  have a1 : a < abc.cps.toList.length := by omega
  have b1 : b < abc.cps.toList.length := by omega
  have g1' : abc.cps.toList[a]? = some c2 := by
    have z := atI_nat (List.getElem?_eq_getElem a1)
    rw [z] at g1
    rw [List.getElem?_eq_getElem a1]
    exact g1
  have g2' : abc.cps.toList[b]? = some c2 := by
    have z := atI_nat (List.getElem?_eq_getElem b1)
    rw [z] at g2
    rw [List.getElem?_eq_getElem b1]
    exact g2
  have eab : a = b := (List.getElem?_inj a1 hn).mp (g1'.trans g2'.symm)
  have := far i j (by omega) hj (by rw [ha, hb, eab])
  omega
/-! ### _law_names -/

theorem snoc_cases {α : Type} (l : List α) : l = [] ∨ ∃ l' x, l = l' ++ [x] := by
  rcases List.eq_nil_or_concat l with h | ⟨l', x, h⟩
  · exact .inl h
  · exact .inr ⟨l', x, by rw [h]; simp⟩
theorem _root_.GP.Prs.last {H : Hp} {us : List V} {ps : List (Int × Int)} {p : Int × Int} (h : Prs H us (ps ++ [p])) : ∃ us' T, us = us' ++ [.ref T] ∧ H T = some (.tup [.int p.1, .int p.2]) ∧ Prs H us' ps := by
  have hl := h.1
  rw [List.length_append] at hl
  rcases snoc_cases us with e | ⟨us', x, e⟩
  · rw [e] at hl
    simp at hl
  · subst e
    rw [List.length_append] at hl
    have hl' : us'.length = ps.length := Nat.add_right_cancel hl
    obtain ⟨T, e1, e2⟩ := h.2 ps.length p (by rw [List.getElem?_append_right (Nat.le_refl _), Nat.sub_self]; rfl)
    rw [List.getElem?_append_right (by omega), hl', Nat.sub_self] at e1
    refine ⟨us', T, by rw [Option.some.inj e1], e2, hl', fun i q eq => ?_⟩
    have hi : i < ps.length := (List.getElem?_eq_some_iff.mp eq).1
    obtain ⟨b, f1, f2⟩ := h.2 i q (by rw [List.getElem?_append_left hi]; exact eq)
    rw [List.getElem?_append_left (by omega)] at f1
    exact ⟨b, f1, f2⟩
theorem eqv_pr_nil (ps : List (Int × Int)) : PyData.eqv (PyData.list (ps.map pairD)) (PyData.list []) = ps.isEmpty := by
  cases ps with
  | nil => simp [PyData.eqv, PyData.eqvAll]
  | cons p r => simp [PyData.eqv, PyData.eqvAll]
def rIxS (K : PySem.W.Frag) : R2 := fun x y H Q => ∃ p xs i v, x = .ref p ∧ y = .int i ∧ Sq K H p xs ∧ atI xs i = some v ∧ Q v H
theorem ix_seq {X : Cx} : IxR X (rIxS X.K) := by
  intro value slice pins s σ H x y v u Q I rx ry h hs
  obtain ⟨p, xs, i, z, e1, e2, hq, he, q⟩ := h
  rcases hq with hq | hq
  · exact ix_list value slice pins s σ H x y v u Q I rx ry ⟨p, xs, i, z, e1, e2, hq, he, q⟩ hs
  · exact ix_tup value slice pins s σ H x y v u Q I rx ry ⟨p, xs, i, z, e1, e2, hq, he, q⟩ hs

/-! ### the table of the def that holds the generator expression -/
theorem tab_at {Pt : Addr} {H H2 : Hp} {b : Addr} {o : HO} (g : GxR.TabG H Pt) (t : GxR.Tabbed Pt H H2) (e : H b = some o) (h : ∀ q, o ≠ .tbl q) : H2 b = some o := by
  obtain ⟨ps, hP, _⟩ := g
  rw [t.2 b (ne_of e hP (h ps))]
  exact e
theorem StAt.tab {Pt : Addr} {H H2 : Hp} {d c : Addr} {t : Int} (S : StAt H d c t) (g : GxR.TabG H Pt) (x : GxR.Tabbed Pt H H2) : StAt H2 d c t :=
  ⟨tab_at g x S.dict (fun _ z => nomatch z), let ⟨cs, e, r⟩ := S.cells; ⟨cs, tab_at g x e (fun _ z => nomatch z), r⟩, S.pos⟩
theorem _root_.GP.Prs.tab {Pt : Addr} {H H2 : Hp} {vs : List V} {ps : List (Int × Int)} (h : Prs H vs ps) (g : GxR.TabG H Pt) (x : GxR.Tabbed Pt H H2) : Prs H2 vs ps :=
  ⟨h.1, fun i p e => let ⟨a, e1, e2⟩ := h.2 i p e; ⟨a, e1, tab_at g x e2 (fun _ z => nomatch z)⟩⟩
theorem tabG_same {Pt : Addr} {H H' : Hp} (g : GxR.TabG H Pt) (s : Same H H') : GxR.TabG H' Pt := let ⟨ps, e, r⟩ := g; ⟨ps, s _ _ e, r⟩
theorem tabG_kp {Pt : Addr} {H H' : Hp} {d c : Addr} {t : Int} (g : GxR.TabG H Pt) (S : StAt H d c t) (k : Kp d c H H') : GxR.TabG H' Pt := let ⟨ps, e, r⟩ := g; ⟨ps, k.at S e (fun _ z => nomatch z) (fun _ z => nomatch z), r⟩
theorem tabG_upd {Pt : Addr} {H : Hp} {l : Addr} {o u : HO} (g : GxR.TabG H Pt) (e : H l = some o) (h : ∀ q, o ≠ .tbl q) : GxR.TabG (upd H l u) Pt := let ⟨ps, eP, r⟩ := g; ⟨ps, by rw [upd_ne (ne_of e eP (h ps)).symm]; exact eP, r⟩
theorem tabbed_free {Pt : Addr} {H H2 : Hp} {p : Addr} (g : GxR.TabG H Pt) (x : GxR.Tabbed Pt H H2) (h : H2 p = none) : H p = none := by
  obtain ⟨ps, e, _⟩ := x.1
  rw [← x.2 p (fun z => by rw [z, e] at h; cases h)]
  exact h

/-- a walk over what stood before a list was begun -/
theorem for_seqS {K : PySem.W.Frag} {a : Addr} {xs : List V} {g : TG} {tb : TS} {D : Ends} {σ : L2.St} {H0 H1 : Hp} (hq : Sq K H0 a xs) (s1 : Same H0 H1) (Pv : Nat → L2.St → Hp → Prop) (h0 : Pv 0 σ H1)
    (hl : ∀ i σ H', Pv i σ H' → Same H0 H')
    (turn : ∀ i x σ H, xs[i]? = some x → Pv i σ H → g x σ H fun σ2 H2 => tb { D with nx := Pv (i + 1), ct := Pv (i + 1), bk := D.nx } σ2 H2) (fin : ∀ σ H, Pv xs.length σ H → D.nx σ H) :
    ((∃ xs, SqL K H1 a xs) ∧ ForR (Itl K a) g tb D σ H1) ∨ ((∃ xs, SqT K H1 a xs) ∧ ForR (Itt K a) g tb D σ H1) := by
  rcases hq with h | h
  · exact .inl ⟨⟨xs, s1.seq h⟩, for_list (xs := xs) Pv h0 (fun i σ H' _ p => (hl i σ H' p).seq h) turn fin⟩
  · exact .inr ⟨⟨xs, same_t s1 h⟩, for_tup (xs := xs) Pv h0 (fun i σ H' _ p => same_t (hl i σ H' p) h) turn fin⟩

abbrev LcR (J : It) (g : TG) (tt : TT) (te : TE) (vs : List Nat) (σ : L2.St) (D : Addr) (Qd : Addr → Hp → Prop) (H1 : Hp) : Prop := ∃ W : Nat → Nat → Hp → Prop, (∃ m, W 0 m (upd H1 D (.lst []))) ∧ ∀ i m H, W i m H →
  (J.stop i H ∧ Qd D H) ∨ (J.go i H ∧ ∃ Nx : Hp → Prop, (∀ H', Nx H' → ∃ m', m' < m ∧ W (i + 1) m' H') ∧ ∀ x H', J.yld i H x H' → g x (wipe σ vs) H' fun σ2 H2 => wipe σ2 vs = wipe σ vs ∧ tt σ2 H2 fun b H3 => if b = true then
    te σ2 H3 fun y H4 => ∃ acc, H4 D = some (.lst acc) ∧ acc.length < sizeLine ∧ Nx (upd H4 D (.lst (acc ++ [y]))) else Nx H3)
theorem lc_seq {K : PySem.W.Frag} {a : Addr} {xs : List V} {g : TG} {tt : TT} {te : TE} {vs : List Nat} {σ : L2.St} {H1 : Hp} {Qd : Addr → Hp → Prop} (hq : Sq K H1 a xs) (Pv : Addr → Nat → Hp → Prop) (h0 : ∀ D, H1 D = none → Pv D 0 (upd H1 D (.lst [])))
    (still : ∀ D i H', H1 D = none → Pv D i H' → SqTo K H1 H' a xs)
    (turn : ∀ D i x H', H1 D = none → xs[i]? = some x → Pv D i H' → g x (wipe σ vs) H' fun σ2 H2 => wipe σ2 vs = wipe σ vs ∧ tt σ2 H2 fun b H3 =>
      if b = true then te σ2 H3 fun y H4 => ∃ acc, H4 D = some (.lst acc) ∧ acc.length < sizeLine ∧ Pv D (i + 1) (upd H4 D (.lst (acc ++ [y]))) else Pv D (i + 1) H3) (fin : ∀ D H', H1 D = none → Pv D xs.length H' → Qd D H') :
    ((∃ xs, SqL K H1 a xs) ∧ ∀ D, H1 D = none → LcR (Itl K a) g tt te vs σ D Qd H1) ∨ ((∃ xs, SqT K H1 a xs) ∧ ∀ D, H1 D = none → LcR (Itt K a) g tt te vs σ D Qd H1) := by
  rcases hq with h | h
  · exact .inl ⟨⟨xs, h⟩, fun D nD => lc_list (xs := xs) (Pv D) (h0 D nD) (fun i H' _ p => (still D i H' nD p).1 h) (fun i x H' e p => turn D i x H' nD e p) (fun H' p => fin D H' nD p)⟩
  · exact .inr ⟨⟨xs, h⟩, fun D nD => lc_tup (xs := xs) (Pv D) (h0 D nD) (fun i H' _ p => (still D i H' nD p).2 h) (fun i x H' e p => turn D i x H' nD e p) (fun H' p => fin D H' nD p)⟩

/-! ### sets by stretches: the mathematics -/
theorem inB_iff {n a b : Int} : inB n a b = true ↔ a ≤ n ∧ n ≤ b := by
  unfold inB
  rw [Bool.and_eq_true, decide_eq_true_eq (p := a ≤ n), decide_eq_true_eq]
theorem anyP_iff {n : Int} {ps : List (Int × Int)} : anyP (inB n) ps = true ↔ ∃ p ∈ ps, p.1 ≤ n ∧ n ≤ p.2 := by
  unfold anyP
  rw [List.any_eq_true]
  constructor
  · rintro ⟨p, hp, e⟩
    exact ⟨p, hp, inB_iff.mp e⟩
  · rintro ⟨p, hp, e⟩
    exact ⟨p, hp, inB_iff.mpr e⟩
/-- the same numbers -/
def Alike (ps qs : List (Int × Int)) : Prop := ∀ n : Int, (∃ p ∈ ps, p.1 ≤ n ∧ n ≤ p.2) ↔ ∃ p ∈ qs, p.1 ≤ n ∧ n ≤ p.2
theorem Alike.any {ps qs : List (Int × Int)} (h : Alike ps qs) (n : Int) : anyP (inB n) ps = anyP (inB n) qs := by
  rw [Bool.eq_iff_iff, anyP_iff, anyP_iff]
  exact h n
theorem Alike.symm {ps qs : List (Int × Int)} (h : Alike ps qs) : Alike qs ps := fun n => (h n).symm
theorem Alike.trans {ps qs rs : List (Int × Int)} (h : Alike ps qs) (h' : Alike qs rs) : Alike ps rs := fun n => (h n).trans (h' n)
theorem Alike.of_mem {ps qs : List (Int × Int)} (h : ∀ p, p ∈ ps ↔ p ∈ qs) : Alike ps qs := fun n => ⟨fun ⟨p, hp, e⟩ => ⟨p, (h p).mp hp, e⟩, fun ⟨p, hp, e⟩ => ⟨p, (h p).mpr hp, e⟩⟩
/-- of each set of numbers there is just one list -/
theorem ris_one : ∀ {rs rs' : List (Int × Int)} {lo lo' : Int}, Ris lo rs → Ris lo' rs' → Alike rs rs' → rs = rs'
  | [], [], _, _, _, _, _ => by rfl
  | [], q :: r, _, _, _, h', e => by
    obtain ⟨p, hp, _⟩ := (e q.1).mpr ⟨q, List.mem_cons_self .., Int.le_refl _, h'.2.1⟩
    exact nomatch hp
  | q :: r, [], _, _, h, _, e => by
    obtain ⟨p, hp, _⟩ := (e q.1).mp ⟨q, List.mem_cons_self .., Int.le_refl _, h.2.1⟩
    exact nomatch hp
  | (a, b) :: r, (a', b') :: r', lo, lo', h, h', e => by
    have hb : a ≤ b := h.2.1
    have hb' : a' ≤ b' := h'.2.1
    have tl : ∀ p ∈ r, b + 2 ≤ p.1 ∧ p.1 ≤ p.2 := Ris.le h.2.2
    have tl' : ∀ p ∈ r', b' + 2 ≤ p.1 ∧ p.1 ≤ p.2 := Ris.le h'.2.2
    have m1 : a' ≤ a := by
      obtain ⟨p, hp, e1, e2⟩ := (e a).mp ⟨(a, b), List.mem_cons_self .., Int.le_refl _, hb⟩
      rcases List.mem_cons.mp hp with z | z
      · rw [z] at e1; exact e1
      · have := tl' p z; omega
    have m2 : a ≤ a' := by
      obtain ⟨p, hp, e1, e2⟩ := (e a').mpr ⟨(a', b'), List.mem_cons_self .., Int.le_refl _, hb'⟩
      rcases List.mem_cons.mp hp with z | z
      · rw [z] at e1; exact e1
      · have := tl p z; omega
    have ea : a = a' := by omega
    have n1 : ¬ b < b' := fun lt => by
      obtain ⟨p, hp, e1, e2⟩ := (e (b + 1)).mpr ⟨(a', b'), List.mem_cons_self .., by show a' ≤ b + 1; omega, by show b + 1 ≤ b'; omega⟩
      rcases List.mem_cons.mp hp with z | z
      · rw [z] at e2; have : b + 1 ≤ b := e2; omega
      · have := tl p z; omega
    have n2 : ¬ b' < b := fun lt => by
      obtain ⟨p, hp, e1, e2⟩ := (e (b' + 1)).mp ⟨(a, b), List.mem_cons_self .., by show a ≤ b' + 1; omega, by show b' + 1 ≤ b; omega⟩
      rcases List.mem_cons.mp hp with z | z
      · rw [z] at e2; have : b' + 1 ≤ b' := e2; omega
      · have := tl' p z; omega
    have eb : b = b' := by omega
    subst ea eb
    have er : Alike r r' := fun n => by
      constructor
      · rintro ⟨p, hp, e1, e2⟩
        obtain ⟨p', hp', f1, f2⟩ := (e n).mp ⟨p, List.mem_cons_of_mem _ hp, e1, e2⟩
        rcases List.mem_cons.mp hp' with z | z
        · rw [z] at f2
          have : n ≤ b := f2
          have := tl p hp
          omega
        · exact ⟨p', z, f1, f2⟩
      · rintro ⟨p, hp, e1, e2⟩
        obtain ⟨p', hp', f1, f2⟩ := (e n).mpr ⟨p, List.mem_cons_of_mem _ hp, e1, e2⟩
        rcases List.mem_cons.mp hp' with z | z
        · rw [z] at f2
          have : n ≤ b := f2
          have := tl' p hp
          omega
        · exact ⟨p', z, f1, f2⟩
    rw [ris_one h.2.2 h'.2.2 er]
theorem Ris.front : ∀ {lo : Int} {rs : List (Int × Int)} {q : Int × Int}, Ris lo (rs ++ [q]) → Ris lo rs ∧ (∀ r ∈ rs, r.2 + 2 ≤ q.1) ∧ lo ≤ q.1 ∧ q.1 ≤ q.2
  | lo, [], q, h => ⟨True.intro, (fun _ z => nomatch z), h.1, h.2.1⟩
  | lo, r :: rs, q, h => by
    obtain ⟨h1, h2, h3, h4⟩ := Ris.front h.2.2
    refine ⟨⟨h.1, h.2.1, h1⟩, fun x hx => ?_, by have := h.1; have := h.2.1; omega, h4⟩
    rcases List.mem_cons.mp hx with z | z
    · rw [z]; exact h3
    · exact h2 x z
/-- what is told of pairs: a set of just their numbers -/
structure SetLike (ps rs : List (Int × Int)) : Prop where
  ris : ∃ lo, Ris lo rs
  same : Alike rs ps
  len : rs.length ≤ ps.length
/-- between two turns: the pairs so far, rising by their firsts, and what is merged of them -/
structure Mrg (pre rs : List (Int × Int)) : Prop extends SetLike pre rs where
  firsts : ∀ r ∈ rs, ∃ p ∈ pre, p.1 = r.1
theorem alike_snoc {pre : List (Int × Int)} {rs rs' : List (Int × Int)} {p : Int × Int} (h : Alike rs pre) (e : ∀ n, (∃ q ∈ rs', q.1 ≤ n ∧ n ≤ q.2) ↔ (∃ q ∈ rs, q.1 ≤ n ∧ n ≤ q.2) ∨ (p.1 ≤ n ∧ n ≤ p.2)) : Alike rs' (pre ++ [p]) := fun n => by
  rw [e n, h n]
  constructor
  · rintro (⟨q, hq, z⟩ | z)
    · exact ⟨q, List.mem_append_left _ hq, z⟩
    · exact ⟨p, List.mem_append_right _ (List.mem_singleton.mpr rfl), z⟩
  · rintro ⟨q, hq, z⟩
    rcases List.mem_append.mp hq with y | y
    · exact .inl ⟨q, y, z⟩
    · rw [List.mem_singleton.mp y] at z
      exact .inr z
theorem Mrg.join {pre rs : List (Int × Int)} {a b : Int} {p : Int × Int} (m : Mrg pre (rs ++ [(a, b)])) (hp : p.1 ≤ p.2) (ord : ∀ q ∈ pre, q.1 ≤ p.1) (near : p.1 ≤ b + 1) : Mrg (pre ++ [p]) (rs ++ [(a, if p.2 > b then p.2 else b)]) := by
  obtain ⟨lo, hr⟩ := m.ris
  obtain ⟨h1, h2, h3, h4⟩ := Ris.front hr
  obtain ⟨q, hq, eq⟩ := m.firsts (a, b) (List.mem_append_right _ (List.mem_singleton.mpr rfl))
  have hap : a ≤ p.1 := by have := ord q hq; have : q.1 = a := eq; omega
  have hab : a ≤ b := h4
  have big : a ≤ (if p.2 > b then p.2 else b) := by split <;> omega
  refine ⟨⟨⟨lo, h1.snoc h3 h2 big⟩, alike_snoc m.same fun n => ?_, ?_⟩, fun r hr => ?_⟩
  · constructor
    · rintro ⟨q, hq, z⟩
      rcases List.mem_append.mp hq with y | y
      · exact .inl ⟨q, List.mem_append_left _ y, z⟩
      · rw [List.mem_singleton.mp y] at z
        have z1 : a ≤ n := z.1
        have z2 : n ≤ (if p.2 > b then p.2 else b) := z.2
        by_cases c : n ≤ b
        · exact .inl ⟨(a, b), List.mem_append_right _ (List.mem_singleton.mpr rfl), z1, c⟩
        · refine .inr ⟨by omega, ?_⟩
          split at z2 <;> omega
    · rintro (⟨q, hq, z⟩ | z)
      · rcases List.mem_append.mp hq with y | y
        · exact ⟨q, List.mem_append_left _ y, z⟩
        · rw [List.mem_singleton.mp y] at z
          refine ⟨_, List.mem_append_right _ (List.mem_singleton.mpr rfl), z.1, ?_⟩
          have z2 : n ≤ b := z.2
          show n ≤ (if p.2 > b then p.2 else b)
          split <;> omega
      · refine ⟨_, List.mem_append_right _ (List.mem_singleton.mpr rfl), by show a ≤ n; omega, ?_⟩
        show n ≤ (if p.2 > b then p.2 else b)
        split <;> omega
  · have := m.len
    rw [List.length_append, List.length_append] at *
    show rs.length + 1 ≤ pre.length + 1
    have : rs.length + 1 ≤ pre.length := this
    omega
  · rcases List.mem_append.mp hr with y | y
    · obtain ⟨q, hq, e⟩ := m.firsts r (List.mem_append_left _ y)
      exact ⟨q, List.mem_append_left _ hq, e⟩
    · rw [List.mem_singleton.mp y]
      exact ⟨q, List.mem_append_left _ hq, eq⟩
theorem Mrg.new {pre rs : List (Int × Int)} {p : Int × Int} (m : Mrg pre rs) (hp : p.1 ≤ p.2) (ord : ∀ q ∈ pre, q.1 ≤ p.1) (far : ∀ r ∈ rs, r.2 + 2 ≤ p.1) : Mrg (pre ++ [p]) (rs ++ [p]) := by
  obtain ⟨lo, hr⟩ := m.ris
  refine ⟨⟨?_, alike_snoc m.same fun n => ?_, by have := m.len; rw [List.length_append, List.length_append]; show rs.length + 1 ≤ pre.length + 1; omega⟩, fun r hr => ?_⟩
  · cases rs with
    | nil => exact ⟨p.1, Int.le_refl _, hp, True.intro⟩
    | cons q r =>
      refine ⟨lo, hr.snoc ?_ far hp⟩
      have := hr.le q (List.mem_cons_self ..)
      have := far q (List.mem_cons_self ..)
      omega
  · constructor
    · rintro ⟨q, hq, z⟩
      rcases List.mem_append.mp hq with y | y
      · exact .inl ⟨q, y, z⟩
      · rw [List.mem_singleton.mp y] at z; exact .inr z
    · rintro (⟨q, hq, z⟩ | z)
      · exact ⟨q, List.mem_append_left _ hq, z⟩
      · exact ⟨p, List.mem_append_right _ (List.mem_singleton.mpr rfl), z⟩
  · rcases List.mem_append.mp hr with y | y
    · obtain ⟨q, hq, e⟩ := m.firsts r y
      exact ⟨q, List.mem_append_left _ hq, e⟩
    · rw [List.mem_singleton.mp y]
      exact ⟨p, List.mem_append_right _ (List.mem_singleton.mpr rfl), rfl⟩
theorem Mrg.nil : Mrg [] [] := ⟨⟨⟨0, True.intro⟩, fun _ => Iff.rfl, Nat.le_refl _⟩, fun _ z => nomatch z⟩

/-! ### sets put together: the mathematics -/
def InS (ps : List (Int × Int)) (n : Int) : Prop := ∃ p ∈ ps, p.1 ≤ n ∧ n ≤ p.2
theorem inS_nil {n : Int} : ¬ InS [] n := fun ⟨_, h, _⟩ => nomatch h
theorem inS_cons {p : Int × Int} {r : List (Int × Int)} {n : Int} : InS (p :: r) n ↔ (p.1 ≤ n ∧ n ≤ p.2) ∨ InS r n := by
  constructor
  · rintro ⟨q, hq, e⟩
    rcases List.mem_cons.mp hq with z | z
    · rw [z] at e; exact .inl e
    · exact .inr ⟨q, z, e⟩
  · rintro (e | ⟨q, hq, e⟩)
    · exact ⟨p, List.mem_cons_self .., e⟩
    · exact ⟨q, List.mem_cons_of_mem _ hq, e⟩
theorem inS_append {ps qs : List (Int × Int)} {n : Int} : InS (ps ++ qs) n ↔ InS ps n ∨ InS qs n := by
  constructor
  · rintro ⟨q, hq, e⟩
    rcases List.mem_append.mp hq with z | z
    · exact .inl ⟨q, z, e⟩
    · exact .inr ⟨q, z, e⟩
  · rintro (⟨q, hq, e⟩ | ⟨q, hq, e⟩)
    · exact ⟨q, List.mem_append_left _ hq, e⟩
    · exact ⟨q, List.mem_append_right _ hq, e⟩
theorem Ris.low {lo n : Int} {ps : List (Int × Int)} (h : Ris lo ps) (e : InS ps n) : lo ≤ n := by
  obtain ⟨p, hp, e1, e2⟩ := e
  have := h.le p hp
  omega
theorem Ris.mono : ∀ {lo lo' : Int} {ps : List (Int × Int)}, Ris lo ps → lo' ≤ lo → Ris lo' ps
  | _, _, [], _, _ => True.intro
  | _, _, _ :: _, h, e => ⟨Int.le_trans e h.1, h.2⟩
def mxI (i j : Int) : Int := if j > i then j else i
def mnI (i j : Int) : Int := if j < i then j else i
theorem mxI_le {i j n : Int} : mxI i j ≤ n ↔ i ≤ n ∧ j ≤ n := by unfold mxI; split <;> omega
theorem le_mxI {i j n : Int} : n ≤ mxI i j ↔ n ≤ i ∨ n ≤ j := by unfold mxI; split <;> omega
theorem le_mnI {i j n : Int} : n ≤ mnI i j ↔ n ≤ i ∧ n ≤ j := by unfold mnI; split <;> omega
theorem mnI_le {i j n : Int} : mnI i j ≤ n ↔ i ≤ n ∨ j ≤ n := by unfold mnI; split <;> omega
/-- going through both at once -/
def bothF : List (Int × Int) → List (Int × Int) → List (Int × Int)
  | [], _ => []
  | _ :: _, [] => []
  | p :: r, q :: s => (if mxI p.1 q.1 ≤ mnI p.2 q.2 then [(mxI p.1 q.1, mnI p.2 q.2)] else []) ++ (if p.2 < q.2 then bothF r (q :: s) else bothF (p :: r) s)
termination_by ps qs => ps.length + qs.length
theorem bothF_nil (ps : List (Int × Int)) : bothF ps [] = [] := by cases ps <;> rw [bothF]
theorem bothF_ris : ∀ {ps qs : List (Int × Int)} {lo lo' k : Int}, Ris lo ps → Ris lo' qs → (k ≤ lo ∨ k ≤ lo') → Ris k (bothF ps qs)
  | [], _, _, _, _, _, _, _ => by rw [bothF]; exact True.intro
  | _ :: _, [], _, _, _, _, _, _ => by rw [bothF]; exact True.intro
  | p :: r, q :: s, lo, lo', k, h, h', hk => by
    rw [bothF]
    have h1 := h.1
    have h2 := h.2.1
    have h1' := h'.1
    have h2' := h'.2.1
    by_cases c : mxI p.1 q.1 ≤ mnI p.2 q.2
    · rw [if_pos c]
      refine ⟨?_, c, ?_⟩
      · show k ≤ mxI p.1 q.1
        rw [le_mxI]
        omega
      · by_cases d : p.2 < q.2
        · rw [if_pos d]
          refine bothF_ris h.2.2 h' (.inl ?_)
          show mnI p.2 q.2 + 2 ≤ p.2 + 2
          have : mnI p.2 q.2 ≤ p.2 := mnI_le.mpr (.inl (Int.le_refl _))
          omega
        · rw [if_neg d]
          refine bothF_ris h h'.2.2 (.inr ?_)
          show mnI p.2 q.2 + 2 ≤ q.2 + 2
          have : mnI p.2 q.2 ≤ q.2 := mnI_le.mpr (.inr (Int.le_refl _))
          omega
    · rw [if_neg c, List.nil_append]
      by_cases d : p.2 < q.2
      · rw [if_pos d]
        refine bothF_ris h.2.2 h' ?_
        omega
      · rw [if_neg d]
        refine bothF_ris h h'.2.2 ?_
        omega
termination_by ps qs => ps.length + qs.length
theorem bothF_in {n : Int} : ∀ {ps qs : List (Int × Int)} {lo lo' : Int}, Ris lo ps → Ris lo' qs → (InS (bothF ps qs) n ↔ InS ps n ∧ InS qs n)
  | [], _, _, _, _, _ => by rw [bothF]; exact ⟨fun h => absurd h inS_nil, fun h => h.1⟩
  | _ :: _, [], _, _, _, _ => by rw [bothF]; exact ⟨fun h => absurd h inS_nil, fun h => h.2⟩
  | p :: r, q :: s, lo, lo', h, h' => by
    rw [bothF, inS_append, inS_cons, inS_cons]
    have e1 : InS (if mxI p.1 q.1 ≤ mnI p.2 q.2 then [(mxI p.1 q.1, mnI p.2 q.2)] else []) n ↔ (p.1 ≤ n ∧ n ≤ p.2) ∧ (q.1 ≤ n ∧ n ≤ q.2) := by
      by_cases c : mxI p.1 q.1 ≤ mnI p.2 q.2
      · rw [if_pos c, inS_cons]
        show ((mxI p.1 q.1 ≤ n ∧ n ≤ mnI p.2 q.2) ∨ InS [] n) ↔ _
        rw [mxI_le, le_mnI]
        constructor
        · rintro (z | z)
          · omega
          · exact absurd z inS_nil
        · intro z
          exact .inl (by omega)
      · rw [if_neg c]
        constructor
        · exact fun z => absurd z inS_nil
        · intro z
          refine absurd (Int.le_trans (mxI_le.mpr ⟨z.1.1, z.2.1⟩) (le_mnI.mpr ⟨z.1.2, z.2.2⟩)) c
    rw [e1]
    by_cases d : p.2 < q.2
    · rw [if_pos d, bothF_in h.2.2 h', inS_cons]
      have no : InS s n → ¬ n ≤ p.2 := fun z => by
        have := h'.2.2.low z
        omega
      constructor
      · rintro (⟨z1, z2⟩ | ⟨z1, z2⟩)
        · exact ⟨.inl z1, .inl z2⟩
        · exact ⟨.inr z1, z2⟩
      · rintro ⟨z1 | z1, z2 | z2⟩
        · exact .inl ⟨z1, z2⟩
        · exact absurd z1.2 (no z2)
        · exact .inr ⟨z1, .inl z2⟩
        · exact .inr ⟨z1, .inr z2⟩
    · rw [if_neg d, bothF_in h h'.2.2, inS_cons]
      have no : InS r n → ¬ n ≤ q.2 := fun z => by
        have := h.2.2.low z
        omega
      constructor
      · rintro (⟨z1, z2⟩ | ⟨z1, z2⟩)
        · exact ⟨.inl z1, .inl z2⟩
        · exact ⟨z1, .inr z2⟩
      · rintro ⟨z1 | z1, z2 | z2⟩
        · exact .inl ⟨z1, z2⟩
        · exact .inr ⟨.inl z1, z2⟩
        · exact absurd z2.2 (no z1)
        · exact .inr ⟨.inr z1, z2⟩
termination_by ps qs => ps.length + qs.length
/-- what lies between the stretches of a set -/
def gapsF (e : Int) : Int → List (Int × Int) → List (Int × Int)
  | st, [] => [(st, e)]
  | st, p :: r => (st, mnI (p.1 - 1) e) :: gapsF e (mxI st (p.2 + 1)) r
theorem gapsF_length (e : Int) : ∀ (qs : List (Int × Int)) (st : Int), (gapsF e st qs).length = qs.length + 1
  | [], _ => rfl
  | _ :: r, _ => by rw [gapsF, List.length_cons, gapsF_length e r, List.length_cons]
theorem gapsF_in {e n : Int} : ∀ {qs : List (Int × Int)} {lo st : Int}, Ris lo qs → (InS (gapsF e st qs) n ↔ (st ≤ n ∧ n ≤ e) ∧ ¬ InS qs n)
  | [], _, st, _ => by
    rw [gapsF, inS_cons]
    constructor
    · rintro (z | z)
      · exact ⟨z, inS_nil⟩
      · exact absurd z inS_nil
    · exact fun z => .inl z.1
  | p :: r, lo, st, h => by
    rw [gapsF, inS_cons, gapsF_in h.2.2, inS_cons]
    show ((st ≤ n ∧ n ≤ mnI (p.1 - 1) e) ∨ (mxI st (p.2 + 1) ≤ n ∧ n ≤ e) ∧ ¬ InS r n) ↔ _
    rw [le_mnI, mxI_le]
    have h2 := h.2.1
    have no : n ≤ p.2 + 1 → ¬ InS r n := fun z y => by
      have := h.2.2.low y
      omega
    constructor
    · rintro (z | ⟨z, y⟩)
      · refine ⟨by omega, ?_⟩
        rintro (x | x)
        · omega
        · exact no (by omega) x
      · refine ⟨by omega, ?_⟩
        rintro (x | x)
        · omega
        · exact y x
    · rintro ⟨z, y⟩
      by_cases c : n < p.1
      · exact .inl (by omega)
      · refine .inr ⟨?_, fun x => y (.inr x)⟩
        have : ¬ (p.1 ≤ n ∧ n ≤ p.2) := fun x => y (.inl x)
        omega
/-- a set of just the numbers of which pr holds -/
structure Told (pr : Int → Prop) (rs : List (Int × Int)) : Prop where
  ris : ∃ lo, Ris lo rs
  same : ∀ n, InS rs n ↔ pr n
theorem Told.one {pr pr' : Int → Prop} {rs rs' : List (Int × Int)} (h : Told pr rs) (h' : Told pr' rs') (e : ∀ n, pr n ↔ pr' n) : rs = rs' := by
  obtain ⟨lo, r⟩ := h.ris
  obtain ⟨lo', r'⟩ := h'.ris
  exact ris_one r r' fun n => (h.same n).trans ((e n).trans (h'.same n).symm)
theorem Told.of {lo : Int} {rs : List (Int × Int)} (h : Ris lo rs) : Told (InS rs) rs := ⟨⟨lo, h⟩, fun _ => Iff.rfl⟩
theorem SetLike.told {ps rs : List (Int × Int)} (h : SetLike ps rs) : Told (InS ps) rs := ⟨h.ris, h.same⟩
theorem Told.cong {pr pr' : Int → Prop} {rs : List (Int × Int)} (h : Told pr rs) (e : ∀ n, pr n ↔ pr' n) : Told pr' rs := ⟨h.ris, fun n => (h.same n).trans (e n)⟩
theorem Told.nneg {pr : Int → Prop} {rs : List (Int × Int)} (h : Told pr rs) (hn : ∀ n, pr n → 0 ≤ n) : Ris 0 rs := by
  obtain ⟨lo, r⟩ := h.ris
  cases rs with
  | nil => exact True.intro
  | cons p q => exact ⟨hn _ ((h.same _).mp (inS_cons.mpr (.inl ⟨Int.le_refl _, r.2.1⟩))), r.2⟩

theorem cut_back (xs : List V) (m : Nat) : cutV xs (some (m : Int)) none = xs.drop m := by
  unfold cutV
  rw [HT.sIx_none, HT.sIx_nat]
  by_cases h : m ≤ xs.length
  · rw [Nat.min_eq_left h]
    exact List.take_of_length_le (by rw [List.length_drop]; exact Nat.le_refl _)
  · rw [Nat.min_eq_right (by omega), Nat.sub_self, List.take_zero, List.drop_eq_nil_of_le (by omega)]
theorem _root_.GP.Prs.append {H : Hp} {us ws : List V} {ps qs : List (Int × Int)} (h : Prs H us ps) (h' : Prs H ws qs) : Prs H (us ++ ws) (ps ++ qs) := by
  refine ⟨by rw [List.length_append, List.length_append, h.1, h'.1], fun i p e => ?_⟩
  by_cases hi : i < ps.length
  · rw [List.getElem?_append_left hi] at e
    rw [List.getElem?_append_left (by rw [h.1]; exact hi)]
    exact h.2 i p e
  · rw [List.getElem?_append_right (by omega)] at e
    rw [List.getElem?_append_right (by rw [h.1]; omega), h.1]
    exact h'.2 _ p e
theorem _root_.GP.Prs.take {H : Hp} {us : List V} {ps : List (Int × Int)} (h : Prs H us ps) (n : Nat) : Prs H (us.take n) (ps.take n) := by
  refine ⟨by rw [List.length_take, List.length_take, h.1], fun i p e => ?_⟩
  rw [List.getElem?_take] at e ⊢
  split at e
  · rename_i hi
    rw [if_pos hi]
    exact h.2 i p e
  · cases e
theorem _root_.GP.Prs.drop {H : Hp} {us : List V} {ps : List (Int × Int)} (h : Prs H us ps) (n : Nat) : Prs H (us.drop n) (ps.drop n) := by
  refine ⟨by rw [List.length_drop, List.length_drop, h.1], fun i p e => ?_⟩
  rw [List.getElem?_drop] at e ⊢
  exact h.2 _ p e
theorem _root_.GP.Prs.reverse {H : Hp} {us : List V} {ps : List (Int × Int)} (h : Prs H us ps) : Prs H us.reverse ps.reverse := by
  refine ⟨by rw [List.length_reverse, List.length_reverse, h.1], fun i p e => ?_⟩
  have hi : i < ps.length := by
    have z := (List.getElem?_eq_some_iff.mp e).1
    rwa [List.length_reverse] at z
  rw [List.getElem?_reverse hi] at e
  rw [List.getElem?_reverse (by rw [h.1]; exact hi), h.1]
  exact h.2 _ p e

/-! ### set_of -/
/-- the pair that a tracked tuple holds -/
def pairOf (H : Hp) : V → Int × Int
  | .ref t => (match H t with
    | some (.tup [.int i, .int j]) => (i, j)
    | _ => (0, 0))
  | _ => (0, 0)
theorem pairOf_at {H : Hp} {t : Addr} {p : Int × Int} (e : H t = some (.tup [.int p.1, .int p.2])) : pairOf H (.ref t) = p := by
  show (match H t with | some (.tup [.int i, .int j]) => (i, j) | _ => (0, 0)) = p
  rw [e]
abbrev sSetOf : Stmt := topS 8
theorem scSetOf : FnScope ["pairs", "merged", "first", "last", "low", "high", "pair"] ["pairs"] (defScope sSetOf) := ⟨rfl, rfl, rfl, by decide +kernel, rfl, by decide +kernel, by decide +kernel⟩
def spSetOf (K : PySem.W.Frag) : Sp := fun vs H Q _ => ∃ (a : Addr) (us : List V) (ps : List (Int × Int)), vs = [.ref a] ∧ Sq K H a us ∧ Prs H us ps ∧ ps.length ≤ 900 ∧
  ∀ (l : Addr) (ws : List V) (rs : List (Int × Int)) H', H l = none → H' l = some (.lst ws) → Prs H' ws rs → SetLike ps rs → Same H H' → Q (.ref l) H'
section
variable {K : PySem.W.Frag} {mg : Str → Option Value} {P : Program} {w : World} {base : Heap}
theorem ok_setof {f : Addr} {fd : FuncData} {k : Nat} (F : Fun K "set_of" "set_of" sSetOf f fd) (mso : mg "sorted" = none) (mx : mg "max" = none) : FnOk P w K mg base CX0 (k + 1) f fd ["pairs"] (spSetOf K) := by
  refine F.ok scSetOf (fun vs H Q E h => ?_) (fun cdv A outer s H vs Q E hr h => ?_)
  · obtain ⟨a, us, ps, rfl, _⟩ := h
    rfl
  · obtain ⟨a, us, ps, rfl, hq, hp, hz, q⟩ := h
    refine ⟨_, pss_cons (ps_set (i := 1) scSetOf.nd rfl (.inl rfl) (pe_lst pa_nil))
      (pss_cons (ps_for PassesOwn.never rfl (pi_list (pe_callB cr_sortedPO (by rfl) mso (by decide +kernel) (pa_cons (pe_lc (own := [("pair", 6)]) (g := gName 6) (tt := tTest (tOp (rI0 fun i j => .bl (decide (i ≤ j))) (tOp (rIxT K) (tVar 6) (tC (.int 0))) (tOp (rIxT K) (tVar 6) (tC (.int 1))))) rfl scSetOf.nd (pi_seq (pv 0))
          (blkOk_by (own := [("pair", 6)]) (N := ["pairs", "merged", "first", "last", "low", "high", "pair"]) (sc := defScope sSetOf) (by decide +kernel))
          (fun _ _ _ _ _ => pg_name (i := 6) scSetOf.nd rfl (.inl rfl)) (fun _ _ _ _ _ => pts_one (pt_cmpR op_le (pe_ix ix_tup (pv 6) pe_int (fun _ _ => rfl)) (pe_ix ix_tup (pv 6) pe_int (fun _ _ => rfl)) (nomark _))) (fun _ _ _ _ _ => pv 6)) pa_nil)))
        (pg_tup rfl (pgs_cons (pg_name (i := 2) scSetOf.nd rfl (.inl rfl)) (pgs_cons (pg_name (i := 3) scSetOf.nd rfl (.inl rfl)) pgs_nil)))
        (pss_one (ps_if (PW.pt (pw_and (pt_truth (pv 1) (by intro _; rfl)) (pw_and1 (pt_cmpR op_le (pv 2) (pe_op op_add (pe_ix ix_tup (pe_ix ix_list (pv 1) (pe_un un_neg pe_int) (fun _ _ => rfl)) pe_int (fun _ _ => rfl)) pe_int) (nomark _)))))
          (pss_cons (ps_asg (pe_ix ix_list (pv 1) (pe_un un_neg pe_int) (fun _ _ => rfl)) (pg_tup rfl (pgs_cons (pg_name (i := 4) scSetOf.nd rfl (.inl rfl)) (pgs_cons (pg_name (i := 5) scSetOf.nd rfl (.inl rfl)) pgs_nil))))
          (pss_one (ps_asg (pe_tup (pa_cons (pv 4) (pa_cons (pe_callB (call_max2 rfl) (by rfl) mx (by decide +kernel) (pa_cons (pv 5) (pa_cons (pv 3) pa_nil))) pa_nil))) (pg_sub (pv 1) (pe_un un_neg pe_int) set_list))))
          (pss_one (ps_expr (pe_bm PySem.F.plainAttrs_list PySem.F.slot_list_append PySem.F.type_list_append mt_append (pv 1) (pa_cons (pe_tup (pa_cons (pv 2) (pa_cons (pv 3) pa_nil))) pa_nil)))))))
      (pss_one (ps_ret (pv 1)))), ?_⟩
    -- merged = []
    refine ⟨Nat.zero_le _, fun mg' nm => ?_⟩
    have s1 := same_upd (o := .lst []) nm
    have em1 : upd H mg' (.lst []) mg' = some (.lst []) := upd_same
    revert s1 em1
    generalize upd H mg' (.lst []) = H1
    intro s1 em1
    -- [pair for pair in pairs if ..]
    refine ⟨.ref a, rfl, a, rfl, lc_seq (xs := us) (hq.same s1) (fun D i H' => Same H1 H' ∧ ∃ ys, H' D = some (.lst ys) ∧ Prs H' ys ((ps.take i).filter fun p => decide (p.1 ≤ p.2)) ∧ ys.length ≤ i) (fun D nD => ⟨same_upd nD, [], upd_same, Prs.nil, Nat.le_refl _⟩)
      (fun D i H' nD hP => SqTo.same hP.1) (fun D i x H' nD hx hP => ?_) (fun D H2 nD hP => ?_)⟩
    · obtain ⟨sm, ys, eD, hys, hyl⟩ := hP
      obtain ⟨p, T, ep, rfl, eT⟩ := prs_at hp hx
      have hi : i < us.length := (List.getElem?_eq_some_iff.mp hx).1
      rw [hp.1] at hi
      have eT' := sm _ _ (s1 _ _ eT)
      refine ⟨rfl, _, rfl, T, _, 0, .int p.1, rfl, rfl, .inl (.inl eT'), atI_nat (j := 0) rfl, _, rfl, T, _, 1, .int p.2, rfl, rfl, .inl (.inl eT'), atI_nat (j := 1) rfl, p.1, p.2, rfl, rfl, _, rfl, ?_⟩
      have etake : (ps.take (i + 1)).filter (fun p => decide (p.1 ≤ p.2)) = (ps.take i).filter (fun p => decide (p.1 ≤ p.2)) ++ (if p.1 ≤ p.2 then [p] else []) := by
        rw [List.take_add_one, ep, List.filter_append]
        by_cases c : p.1 ≤ p.2
        · rw [if_pos c]; simp [c]
        · rw [if_neg c]; simp [c]
      refine ite2 (fun c => ?_) (fun c => ?_)
      · have c' := of_decide_eq_true c
        refine ⟨_, rfl, ys, eD, small1000 (by omega), fun b o e => ?_, _, upd_same, ?_, by rw [List.length_append]; show ys.length + 1 ≤ i + 1; omega⟩
        · rw [upd_ne (ne_of_none e nD)]
          exact sm b o e
        · rw [etake, if_pos c']
          exact (hys.snoc eT').upd_lst eD
      · have c' : ¬ p.1 ≤ p.2 := fun z => c (decide_eq_true z)
        refine ⟨sm, ys, eD, ?_, by omega⟩
        rw [etake, if_neg c', List.append_nil]
        exact hys
    · -- sorted
      obtain ⟨sm, ys, eD, hys, hyl⟩ := hP
      rw [hp.1, List.take_length] at hys
      refine ⟨D, ys, pairOf H2, rfl, SqL.of eD, fun x hx => ?_, fun zs g srt stb ng => ?_⟩
      · obtain ⟨i, hi, e⟩ := List.getElem_of_mem hx
        obtain ⟨p, T, _, rfl, eT⟩ := prs_at hys (by rw [List.getElem?_eq_getElem hi, e])
        exact ⟨T, rfl, by rw [pairOf_at eT]; exact eT⟩
      have sg := same_upd (o := .lst zs) ng
      have eg : upd H2 g (.lst zs) g = some (.lst zs) := upd_same
      have s3 : Same H (upd H2 g (.lst zs)) := (s1.trans sm).trans sg
      have em3 := sg _ _ (sm _ _ em1)
      -- the pairs of zs
      have each : ∀ x ∈ zs, ∃ T, x = .ref T ∧ H2 T = some (.tup [.int (pairOf H2 x).1, .int (pairOf H2 x).2]) := fun x hx => by
        obtain ⟨i, hi, e⟩ := List.getElem_of_mem (stb.perm.mem_iff.mp hx)
        obtain ⟨p, T, _, rfl, eT⟩ := prs_at hys (by rw [List.getElem?_eq_getElem hi, e])
        exact ⟨T, rfl, by rw [pairOf_at eT]; exact eT⟩
      have hzs : Prs H2 zs (zs.map (pairOf H2)) := ⟨by rw [List.length_map], fun i p e => by
        rw [List.getElem?_map] at e
        cases h : zs[i]? with
        | none => rw [h] at e; cases e
        | some x =>
          rw [h] at e
          cases e
          obtain ⟨T, rfl, eT⟩ := each x (List.mem_of_getElem? h)
          exact ⟨T, rfl, eT⟩⟩
      have hmap : ys.map (pairOf H2) = ps.filter fun p => decide (p.1 ≤ p.2) := by
        refine List.ext_getElem? fun i => ?_
        rw [List.getElem?_map]
        cases h : ys[i]? with
        | none =>
          have : (ps.filter fun p => decide (p.1 ≤ p.2))[i]? = none := by
            rw [List.getElem?_eq_none_iff] at h ⊢
            rw [← hys.1]
            exact h
          rw [this]
          rfl
        | some x =>
          obtain ⟨p, T, ep, rfl, eT⟩ := prs_at hys h
          rw [ep]
          show some (pairOf H2 (.ref T)) = some p
          rw [pairOf_at eT]
      have hperm : (zs.map (pairOf H2)).Perm (ps.filter fun p => decide (p.1 ≤ p.2)) := hmap ▸ stb.perm.map (pairOf H2)
      have hle : ∀ p ∈ zs.map (pairOf H2), p.1 ≤ p.2 := fun p hp' => by
        have := hperm.mem_iff.mp hp'
        exact of_decide_eq_true (List.mem_filter.mp this).2
      have hord : (zs.map (pairOf H2)).Pairwise fun x y => x.1 ≤ y.1 := by
        rw [List.pairwise_map]
        refine srt.imp fun {x y} h => ?_
        have := SrtO.lexB_no.mp h
        omega
      have hzl : zs.length ≤ 900 := by
        rw [stb.perm.length_eq, hys.1]
        exact Nat.le_trans (List.length_filter_le _ _) hz
      revert hzs hperm hle hord
      generalize zs.map (pairOf H2) = qs
      intro hzs hperm hle hord
      have hzs3 := hzs.same sg
      revert eg s3 em3 hzs3
      generalize upd H2 g (.lst zs) = H3
      intro eg s3 em3 hzs3
      have ngH : H g = none := (s1.trans sm).free ng
      have nmg : mg' ≠ g := ne_of_none (sm _ _ em1) ng
      -- the merging
      refine ⟨g, rfl, ⟨_, SqL.of eg⟩, for_list (xs := zs) (fun i σ H4 => ∃ (ms : List V) (rs : List (Int × Int)) (y2 y3 y4 y5 y6 : Option V), σ = [some (.ref a), some (.ref mg'), y2, y3, y4, y5, y6] ∧ Same H H4 ∧ H4 g = some (.lst zs) ∧ Prs H4 zs qs ∧ H4 mg' = some (.lst ms) ∧ Prs H4 ms rs ∧ Mrg (qs.take i) rs)
        ⟨[], [], _, _, _, _, _, rfl, s3, eg, hzs3, em3, Prs.nil, Mrg.nil⟩ (fun i σ H4 _ hP => ?_) (fun i x σ H4 hx hP => ?_) (fun σ H4 hP => ?_)⟩
      · obtain ⟨_, _, _, _, _, _, _, rfl, _, e, _⟩ := hP
        exact SqL.of e
      · obtain ⟨ms, rs, y2, y3, y4, y5, y6, rfl, sm4, eg4, hz4, em4, hms, m⟩ := hP
        obtain ⟨p, T, ep, rfl, eT⟩ := prs_at hz4 hx
        have hi : i < qs.length := (List.getElem?_eq_some_iff.mp ep).1
        have hp12 : p.1 ≤ p.2 := hle p (List.mem_of_getElem? ep)
        have ord : ∀ q ∈ qs.take i, q.1 ≤ p.1 := fun q hq' => by
          obtain ⟨j, hj, e⟩ := List.getElem_of_mem hq'
          rw [List.length_take] at hj
          rw [List.getElem_take] at e
          obtain ⟨_, e2⟩ := List.getElem?_eq_some_iff.mp ep
          rw [← e, ← e2]
          exact List.pairwise_iff_getElem.mp hord j i (by omega) hi (by omega)
        have etake : qs.take (i + 1) = qs.take i ++ [p] := by rw [List.take_add_one, ep]; rfl
        have hmsl : ms.length ≤ 900 := by
          have := m.len
          rw [List.length_take] at this
          have := hzs.1
          rw [hms.1]
          omega
        refine ⟨T, _, rfl, .inl (.inl eT), rfl, _, _, rfl, _, _, rfl, rfl, ?_⟩
        -- what a new tuple and a change of merged leave
        have grow : ∀ (T2 : Addr) (p2 : Int × Int) (ms2 : List V) (rs2 : List (Int × Int)), H4 T2 = none → Prs (upd H4 T2 (.tup [.int p2.1, .int p2.2])) ms2 rs2 →
            Same H (upd (upd H4 T2 (.tup [.int p2.1, .int p2.2])) mg' (.lst ms2)) ∧ upd (upd H4 T2 (.tup [.int p2.1, .int p2.2])) mg' (.lst ms2) g = some (.lst zs) ∧ Prs (upd (upd H4 T2 (.tup [.int p2.1, .int p2.2])) mg' (.lst ms2)) zs qs ∧ upd (upd H4 T2 (.tup [.int p2.1, .int p2.2])) mg' (.lst ms2) mg' = some (.lst ms2) ∧ Prs (upd (upd H4 T2 (.tup [.int p2.1, .int p2.2])) mg' (.lst ms2)) ms2 rs2 := by
          intro T2 p2 ms2 rs2 n2 h2
          have st := same_upd (o := .tup [.int p2.1, .int p2.2]) n2
          have em5 := st _ _ em4
          refine ⟨fun b o e => ?_, ?_, (hz4.same st).upd_lst em5, upd_same, h2.upd_lst em5⟩
          · rw [upd_ne (ne_of_none e nm)]
            exact st _ _ (sm4 _ _ e)
          · rw [upd_ne nmg.symm]
            exact st _ _ eg4
        -- append
        have app : (∀ r ∈ rs, r.2 + 2 ≤ p.1) → (tDrop (tBM K "list" rAppend (tVar 1) (tCons (tTup (tCons (tVar 2) (tCons (tVar 3) tNil))) tNil))) { nx := fun σ H4 => ∃ (ms : List V) (rs : List (Int × Int)) (y2 y3 y4 y5 y6 : Option V), σ = [some (.ref a), some (.ref mg'), y2, y3, y4, y5, y6] ∧ Same H H4 ∧ H4 g = some (.lst zs) ∧ Prs H4 zs qs ∧ H4 mg' = some (.lst ms) ∧ Prs H4 ms rs ∧ Mrg (qs.take (i + 1)) rs, rt := fun _ _ => False } [some (.ref a), some (.ref mg'), some (.int p.1), some (.int p.2), y4, y5, y6] H4 := by
          intro far
          refine ⟨.ref mg', rfl, .inl ⟨rfl, _, SqL.of em4⟩, _, rfl, _, rfl, (by show 2 ≤ sizeLine; decide), fun T2 n2 => ?_⟩
          have st := same_upd (o := .tup [.int p.1, .int p.2]) n2
          refine ⟨mg', _, _, rfl, rfl, st _ _ em4, small1000 (by omega), ?_⟩
          obtain ⟨g1, g2, g3, g4, g5⟩ := grow T2 p (ms ++ [.ref T2]) (rs ++ [p]) n2 ((hms.same st).snoc upd_same)
          exact ⟨_, _, _, _, _, _, _, rfl, g1, g2, g3, g4, g5, by rw [etake]; exact m.new hp12 ord far⟩
        rcases snoc_cases rs with e0 | ⟨rs', ⟨lo, hi'⟩, e0⟩
        · have e1 : ms = [] := List.eq_nil_of_length_eq_zero (by rw [hms.1, e0]; rfl)
          have em0 : H4 mg' = some (.lst []) := by rw [em4, e1]
          refine ⟨.ref mg', rfl, false, .inl ⟨[], SqL.of em0, rfl⟩, iteF (iteF ?_)⟩
          exact app (by rw [e0]; exact fun _ z => nomatch z)
        · subst e0
          obtain ⟨ms', T0, rfl, eT0, hms'⟩ := hms.last
          refine ⟨.ref mg', rfl, true, .inl ⟨_, SqL.of em4, by simp⟩, iteT ?_⟩
          refine ⟨_, rfl, .ref mg', rfl, 1, rfl, mg', _, -1, .ref T0, rfl, rfl, SqL.of em4, atI_last _ _, T0, _, 1, .int hi', rfl, rfl, .inl (.inl eT0), atI_nat (j := 1) rfl, hi', 1, rfl, rfl, p.1, _, rfl, rfl, _, rfl, ite2 (fun c => ?_) (fun c => ?_)⟩
          · have c' := of_decide_eq_true c
            refine ⟨.ref mg', rfl, 1, rfl, mg', _, -1, .ref T0, rfl, rfl, SqL.of em4, atI_last _ _, T0, _, rfl, .inl (.inl eT0), rfl, _, _, rfl, _, _, rfl, rfl, ?_⟩
            refine ⟨_, rfl, _, rfl, _, rfl, hi', p.2, rfl, (by show 2 ≤ sizeLine; decide), fun T2 n2 => ?_⟩
            have st := same_upd (o := .tup [.int lo, .int (if p.2 > hi' then p.2 else hi')]) n2
            have ei : ixN (ms' ++ [V.ref T0]).length (-1) = some ms'.length := by
              unfold ixN
              rw [if_neg (by decide), List.length_append, if_pos (by show -((ms'.length + 1 : Nat) : Int) ≤ -1; omega)]
              show some ((-1 : Int) + ((ms'.length + 1 : Nat) : Int)).toNat = _
              congr 1
              omega
            refine ⟨.ref mg', rfl, 1, rfl, mg', _, -1, ms'.length, rfl, rfl, st _ _ em4, ei, ?_⟩
            have es : (ms' ++ [V.ref T0]).set ms'.length (.ref T2) = ms' ++ [.ref T2] := by simp
            rw [es]
            obtain ⟨g1, g2, g3, g4, g5⟩ := grow T2 (lo, if p.2 > hi' then p.2 else hi') (ms' ++ [.ref T2]) (rs' ++ [(lo, if p.2 > hi' then p.2 else hi')]) n2 ((hms'.same st).snoc upd_same)
            exact ⟨_, _, _, _, _, _, _, rfl, g1, g2, g3, g4, g5, by rw [etake]; exact m.join hp12 ord c'⟩
          · have c' : ¬ p.1 ≤ hi' + 1 := fun z => c (decide_eq_true z)
            refine app fun r hr' => ?_
            obtain ⟨lo', hR⟩ := m.ris
            obtain ⟨_, h2, _, h4⟩ := Ris.front hR
            have h4' : lo ≤ hi' := h4
            rcases List.mem_append.mp hr' with y | y
            · have : r.2 + 2 ≤ lo := h2 r y
              omega
            · rw [List.mem_singleton.mp y]
              show hi' + 2 ≤ p.1
              omega
      · obtain ⟨ms, rs, y2, y3, y4, y5, y6, rfl, sm4, eg4, hz4, em4, hms, m⟩ := hP
        rw [hzs.1, List.take_length] at m
        refine ⟨_, rfl, q mg' ms rs H4 nm em4 hms ⟨m.ris, m.same.trans fun n => ?_, Nat.le_trans m.len (Nat.le_trans (Nat.le_of_eq hperm.length_eq) (List.length_filter_le _ _))⟩ sm4⟩
        constructor
        · rintro ⟨r, hr', e⟩
          exact ⟨r, (List.mem_filter.mp (hperm.mem_iff.mp hr')).1, e⟩
        · rintro ⟨r, hr', e⟩
          exact ⟨r, hperm.mem_iff.mpr (List.mem_filter.mpr ⟨hr', decide_eq_true (by omega)⟩), e⟩
end

def RetS (H : Hp) (pr : Int → Prop) (m : Nat) (Q : V → Hp → Prop) : Prop := ∀ (l : Addr) (ws : List V) (rs : List (Int × Int)) H', H l = none → H' l = some (.lst ws) → Prs H' ws rs → Told pr rs → rs.length ≤ m → Same H H' → Q (.ref l) H'

/-! ### things as data, all of it tracked -/
inductive Dat (H : Hp) : V → PyData → Prop
  | non : Dat H .non .none
  | bl (b : Bool) : Dat H (.bl b) (.bool b)
  | int (i : Int) : Dat H (.int i) (.int i)
  | str (x : Str) : Dat H (.str x) (.str x)
  | lst {a : Addr} {xs : List V} {ds : List PyData} : H a = some (.lst xs) → xs.length = ds.length → (∀ (i : Nat) x d, xs[i]? = some x → ds[i]? = some d → Dat H x d) → Dat H (.ref a) (.list ds)
  | tup {a : Addr} {xs : List V} {ds : List PyData} : H a = some (.tup xs) → xs.length = ds.length → (∀ (i : Nat) x d, xs[i]? = some x → ds[i]? = some d → Dat H x d) → Dat H (.ref a) (.tuple ds)
theorem Dat.same {H H' : Hp} {v : V} {d : PyData} (h : Dat H v d) (s : Same H H') : Dat H' v d := by
  induction h with
  | non => exact .non
  | bl b => exact .bl b
  | int i => exact .int i
  | str x => exact .str x
  | lst e l _ ih => exact .lst (s _ _ e) l ih
  | tup e l _ ih => exact .tup (s _ _ e) l ih
/-- at most so deep, no longer than these lines -/
def Sm : Nat → PyData → Prop
  | _, .none => True
  | _, .bool _ => True
  | _, .int _ => True
  | _, .str _ => True
  | n + 1, .list ds => ds.length ≤ 900 ∧ ∀ d ∈ ds, Sm n d
  | n + 1, .tuple ds => ds.length ≤ 900 ∧ ∀ d ∈ ds, Sm n d
  | _, _ => False
/-- no list, no tuple -/
def Flat (d : PyData) : Prop := d = .none ∨ (∃ b, d = .bool b) ∨ (∃ i, d = .int i) ∨ ∃ x, d = .str x
theorem Sm.cases {n : Nat} {d : PyData} (h : Sm (n + 1) d) : Flat d ∨ (∃ ds, d = .list ds ∧ ds.length ≤ 900 ∧ ∀ d ∈ ds, Sm n d) ∨ ∃ ds, d = .tuple ds ∧ ds.length ≤ 900 ∧ ∀ d ∈ ds, Sm n d := by
  cases d <;> first | exact .inl (.inl rfl) | exact .inl (.inr (.inl ⟨_, rfl⟩)) | exact .inl (.inr (.inr (.inl ⟨_, rfl⟩))) | exact .inl (.inr (.inr (.inr ⟨_, rfl⟩))) | exact .inr (.inl ⟨_, rfl, h.1, h.2⟩) | exact .inr (.inr ⟨_, rfl, h.1, h.2⟩) | exact h.elim
theorem Sm.flat {d : PyData} (h : Sm 0 d) : Flat d := by
  cases d <;> first | exact .inl rfl | exact .inr (.inl ⟨_, rfl⟩) | exact .inr (.inr (.inl ⟨_, rfl⟩)) | exact .inr (.inr (.inr ⟨_, rfl⟩)) | exact h.elim
theorem walk_zipTs {K : PySem.W.Frag} {a b : Addr} {xs ys : List V} {n : Nat} (h1 : xs.length = n) (h2 : ys.length = n) : Walk (RZ.ItzT K a b) n (fun H => SqT K H a xs ∧ SqT K H b ys) (YPair (fun i => xs[i]?) (fun i => ys[i]?)) where
  goes := fun i _ lt q => ⟨xs, ys, _, _, q.1, q.2, List.getElem?_eq_getElem (h1.symm ▸ lt), List.getElem?_eq_getElem (h2.symm ▸ lt)⟩
  stops := fun _ q => ⟨xs, ys, q.1, q.2, .inl (Nat.le_of_eq h1)⟩
  yields := fun i _ _ _ _ q ⟨T, x, z, e1, e2, e3, e4, e5⟩ => ⟨T, x, z, e1, e2, e3, e4 xs q.1, e5 ys q.2⟩
theorem prs_dat {H : Hp} {us : List V} {ps : List (Int × Int)} (h : Prs H us ps) : ∀ (i : Nat) x d, us[i]? = some x → (ps.map pairD)[i]? = some d → Dat H x d := fun i x d e1 e2 => by
  obtain ⟨p, a, ep, rfl, ea⟩ := prs_at h e1
  rw [List.getElem?_map, ep] at e2
  have ed : pairD p = d := Option.some.inj e2
  rw [← ed]
  refine .tup ea rfl fun j y d f1 f2 => ?_
  have hj : j < 2 := (List.getElem?_eq_some_iff.mp f1).1
  have : j = 0 ∨ j = 1 := by omega
  rcases this with rfl | rfl
  · cases f1; cases f2; exact .int _
  · cases f1; cases f2; exact .int _
theorem sm_prs {ps : List (Int × Int)} (h : ps.length ≤ 900) : Sm 2 (.list (ps.map pairD)) := by
  refine ⟨by rw [List.length_map]; exact h, fun d hd => ?_⟩
  obtain ⟨p, _, rfl⟩ := List.mem_map.mp hd
  exact ⟨by show 2 ≤ 900; decide, fun d hd => by
    rcases List.mem_cons.mp hd with e | e
    · rw [e]; trivial
    · rw [List.mem_singleton.mp e]; trivial⟩
theorem ints_dat {H : Hp} {a : Addr} {ns : List Int} (e : H a = some (.lst (ns.map V.int))) : Dat H (.ref a) (.list (ns.map PyData.int)) := .lst e (by rw [List.length_map, List.length_map]) fun i x d e1 e2 => by
  rw [List.getElem?_map] at e1 e2
  cases h : ns[i]? with
  | none => rw [h] at e1; cases e1
  | some n =>
    rw [h] at e1 e2
    cases e1
    cases e2
    exact .int n
theorem sm_ints {ns : List Int} (h : ns.length ≤ 900) : Sm 1 (.list (ns.map PyData.int)) := by
  refine ⟨by rw [List.length_map]; exact h, fun d hd => ?_⟩
  obtain ⟨p, _, rfl⟩ := List.mem_map.mp hd
  trivial

def SqH (H : Hp) (a : Addr) (xs : List V) : Prop := H a = some (.lst xs) ∨ H a = some (.tup xs)

/-! ### defs that are called while nothing is being shown: str of lists within lists -/
/-- a def keeps its promise where nothing is being shown -/
structure FnG (P : Program) (w : World) (K : PySem.W.Frag) (mg : Str → Option Value) (base : Heap) (CX : CXT) (k : Nat) (f : Addr) (fd : FuncData) (ps : List Str) (sp : Sp) : Prop where
  len : ∀ (vs : List V) (H : Hp) (Q : VK) (E : XK), sp vs H Q E → vs.length = ps.length
  run : ∀ (A : Around) (outer : List Env) (s : Shared) (H : Hp) (args : Args) (us : List Value) (vs : List V) (Q : VK) (E : XK), A.guards = some [] → Room k A → Env0 P w K mg base A outer s H → BindsTo s fd args (ps.zip us) → Vals vs us → sp vs H Q E → codeAny (model P w) A (Code.call (Value.ref f) args) (CR CX outer P w H s Q E) s
section
variable {CX : CXT} {P : Program} {w : World} {K : PySem.W.Frag} {mg : Str → Option Value} {base : Heap} {k : Nat}
theorem FnG.of {f : Addr} {fd : FuncData} {ps : List Str} {sp : Sp} (F : FnOk P w K mg base CX k f fd ps sp) : FnG P w K mg base CX k f fd ps sp :=
  ⟨F.len, fun A outer s H args us vs Q E _ hr e0 hb r hsp => F.run A outer s H args us vs Q E hr e0 hb r hsp⟩
theorem fn_ofG {f : Addr} {name qual : Str} {params : Arguments} {body : List Stmt} {scope : Scope} {dV kV doc pm cdv ct oc : Value} {an od : Option Addr} {osl : Array (Option Value)} {N ps : List Str} {sp : Sp}
    (lk : List.lookup f K = some { cls := oc, dict := od, data := Data.func (PySem.W.fnOf name qual params body scope dV kV doc pm an cdv ct), slots := osl }) (hcd : PySem.W.codeIn K cdv qual = true) (S : FnScope N ps scope)
    (len : ∀ (vs : List V) (H : Hp) (Q : VK) (E : XK), sp vs H Q E → vs.length = ps.length)
    (hbody : ∀ (A : Around) (outer : List Env) (s : Shared) (H : Hp) (vs : List V) (Q : VK) (E : XK), A.guards = some [] → Room k (A.deeper (PyProof.Rows.envOfC qual scope s.heap.objs.size f cdv)) → sp vs H Q E →
      ∃ t, PSs (cxOf CX P w K mg base N qual scope f cdv A outer s H E) body t ∧ t { nx := fun _ H' => Q V.non H', rt := Q } (L2.start N vs) H) :
    FnG P w K mg base CX (k + 1) f (PySem.W.fnOf name qual params body scope dV kV doc pm an cdv ct) ps sp := by
  refine ⟨len, fun A outer s H args us vs Q E hgd hr e0 hb r hsp => ?_⟩
  have hl := len vs H Q E hsp
  have KX := PySem.W.Frag.In.keeps e0.mod.kin fun b o e => (e0.bs b o e).1
  have lim := Heap.NoLimit.keeps e0.mod.nolimit fun b o e => (e0.bs b o e).1
  refine codeAny_call_function (Room.depth hr) (KX f _ lk) rfl S.co S.gen rfl (PySem.W.codeRec_of KX hcd) (hb (model P w) A.in1 _ _ (wpAny_newFunctionEnv_cells S.kind (fun x hy => ?_) fun env he s1 x => ?_))
  · obtain ⟨n, v⟩ := x
    rcases S.par n (List.of_mem_zip hy).1 with q | q
    · exact .inl q
    · exact .inr ⟨q, PySem.W.cellsFrom_some scope.names _ [] (.inl q)⟩
  · subst he
    refine ⟨Heap.NoLimit.keeps lim x.toInCall.keep, codeAny_func ?_⟩
    obtain ⟨t, ht, hq⟩ := hbody A outer s H vs Q E hgd (Room.deeper hr _) hsp
    have I := inv_start (CX := CX) (E := E) S hr.hd e0 hl r x
    refine wpAny_mono (ht.run [] s1 (L2.start N vs) H _ I hq) (fun fl s' hs => ?_) (fun e s' hs => hs)
    cases fl with
    | ret u =>
      obtain ⟨v, σ', H', J, rv, q⟩ := hs
      exact ⟨v, H', J.os, J.bare, J.base, J.hok, rv, q⟩
    | next =>
      obtain ⟨σ', H', J, q⟩ := hs
      exact ⟨V.non, H', J.os, J.bare, J.base, J.hok, rfl, q⟩
    | _ =>
      obtain ⟨_, _, _, q⟩ := hs
      exact q.elim
theorem Fun_okG {x qual : Str} {st : Stmt} {f : Addr} {fd : FuncData} {N ps : List Str} {sp : Sp} (F : Fun K x qual st f fd) (S : FnScope N ps (defScope st))
    (len : ∀ (vs : List V) (H : Hp) (Q : VK) (E : XK), sp vs H Q E → vs.length = ps.length)
    (hbody : ∀ (cdv : Value) (A : Around) (outer : List Env) (s : Shared) (H : Hp) (vs : List V) (Q : VK) (E : XK), A.guards = some [] → Room k (A.deeper (PyProof.Rows.envOfC qual (defScope st) s.heap.objs.size f cdv)) → sp vs H Q E →
      ∃ t, PSs (cxOf CX0 P w K mg base N qual (defScope st) f cdv A outer s H E).nox (defBody st) t ∧ t { nx := fun _ H' => Q V.non H', rt := Q } (L2.start N vs) H) :
    FnG P w K mg base CX0 (k + 1) f fd ps sp := by
  obtain ⟨oc, od, kV, doc, pm, an, cdv, ct, osl, rfl, lk, hcd⟩ := F.ex
  refine fn_ofG lk hcd S len fun A outer s H vs Q E hg hr hsp => ?_
  obtain ⟨t, h, q⟩ := hbody cdv A outer s H vs Q E hg hr hsp
  exact ⟨t, PSs.nox h, q⟩
end
theorem run_fnG {X : Cx} {CX : CXT} {k : Nat} {f : Addr} {fd : FuncData} {ps : List Str} {sp : Sp} {dvs : List V} {ds : List Value} {E : XK} {pins : List (Addr × Obj)} {σ : L2.St} {H : Hp} {s : Shared} {Q : VK} {us : List Value} {vs : List V}
    (F : FnG X.prog X.w X.K X.mg X.base CX k f fd ps sp) (hgd : X.A.guards = some []) (hr : Room k X.A) (hb : Binds X.K fd ps ds) (hd : Vals dvs ds) (hx : Passes CX X E) (I : L2.Inv X pins σ H s) (r : Vals vs us) (h : sp (vs ++ dvs) H Q E) :
    wpAny (model X.prog X.w) X.A (call (Value.ref f) us) (EP X pins σ Q) X.xe s := by
  have r2 := Vals.append r hd
  have hl : (us ++ ds).length = ps.length := by rw [← Vals.length r2]; exact F.len _ _ _ _ h
  refine wpAny_call (codeAny_mono (F.run X.A X.stack s H _ _ _ Q E hgd hr (Inv.env0 I) (hb s us (Inv.kIn I) hl) r2 h) fun r s' hq => ?_)
  cases r with
  | error e => exact hx pins σ H s e s' I hq
  | ok fl =>
    cases fl with
    | ret u => exact Inv.after I hq
    | _ => exact hq.elim
/-- a def of the text that keeps a promise where nothing is being shown, as its callers see it -/
def CalG (P : Program) (w : World) (K : PySem.W.Frag) (mg : Str → Option Value) (base : Heap) (k : Nat) (x : Str) (ps : List Str) (sp : Sp) : Prop :=
  ∃ f fd, FnG P w K mg base CX0 k f fd ps sp ∧ mg x = some (.ref f) ∧ PySem.W.keepIn K (.ref f) = true ∧ Binds K fd ps []
theorem pe_ownG {X : Cx} {k : Nat} {x : Str} {ps : List Str} {sp : Sp} {e : Expr} {es : List Expr} {t : TA} {p pos : Pos} (C : CalG X.prog X.w X.K X.mg X.base k x ps sp) (hgd : X.A.guards = some []) (hr : Room k X.A) (hg : Gl X x) (ha : PA X (e :: es) t)
    (dbg : (x == ("__debug__" : Str)) = false := by decide) (one : starEach (e :: es) X.env = (false, eval e X.env) :: starEach es X.env := by rfl) (star : (backTo pos (starEach es X.env)).any (·.1) = false := by rfl) :
    PE X (.Call (.Name x p) (e :: es) [] pos) (tCall sp [] E0 t) := by
  obtain ⟨f, fd, F, hm, hk, hb⟩ := C
  refine ⟨fun pins s σ H Q I h => wpAny_Call_Name_kw (ld_glob I hg hm (PySem.W.callWith_K I.ok.mod.kin hk (thn (ha.run pos pins s σ H _ I h) fun us s1 z => ?_) one star) dbg)⟩
  obtain ⟨vs, H1, I1, r, q⟩ := z
  exact ⟨Inv.kIn I1, run_fnG F hgd hr hb .nil pass0 I1 r q⟩
/-- str of data -/
def rStrD (K : PySem.W.Frag) : List V → Hp → VK → Prop := fun xs H Q => ∃ (a : Addr) (d : PyData), xs = [.ref a] ∧ Dp K H (.ref a) d ∧ d.showable = true ∧ d.hasDict = false ∧ d.depth ≤ 8 ∧ d.shown.length ≤ sizeLine ∧ Q (.str d.shown) H
theorem cr_strD {X : Cx} (hg : X.A.guards = some []) (hu : X.A.units + 11 < cLine) : CallR X (.type "str") (rStrD X.K) := fun pins s σ H xs us Q I hv h => by
  obtain ⟨a, d, rfl, hd, h1, h2, h3, h4, q⟩ := h
  cases hv with
  | cons ru hn =>
    cases hn
    cases ru
    obtain ⟨as, hR⟩ := Dp.reads I d (.ref a) (.ref a) hd rfl
    exact str_of_reads hR h1 (fun z => by rw [h2] at z; cases z) hg (by omega) (fun b o e => e) (fun h' u tk keep => ⟨.str d.shown, H, I.kept keep, ⟨u, rfl⟩, q⟩) h4
/-! ### the end -/
theorem law_callG {P : Program} {w : World} {K : PySem.W.Frag} {mg mb : Str → Option Value} {CX : CXT} {k : Nat} {fa a : Addr} {fd : FuncData} {x : Str} {sp : Sp} {s₁ : Shared} {vs : List Value} {ns : List Int}
    (KX : K.In s₁.heap) (hns : s₁.heap.Ns mainGlobals mg) (hb : s₁.heap.Ns builtinsNs mb) (hbb : ∀ (x : Str), x ≠ Str.ofString "__name__" → mb x = bootBuiltins x) (hlim : s₁.heap.NoLimit) (hg : s₁.gens = #[])
    (ha : s₁.heap.get? a = some { cls := Value.type "list", data := Data.seq vs.toArray }) (hi : PyProof.Rows.IntsAre vs ns) (hl : ns.length ≤ sizeLine) (hr : Room k callerA)
    (F : ∀ (base : Heap), K.In base → base.Ns mainGlobals mg → FnG P w K mg base CX k fa fd [x] sp) (hbind : ∀ (s : Shared) (u : Value), BindsTo s fd { pos := [u] } [(x, u)])
    (hsp : ∀ (H : Hp), Only H → SqL K H a (List.map V.int ns) → sp [V.ref a] H (fun v _ => v = V.bl true) fun _ _ _ => False) (hCX : ∀ (H : Hp) (e : Value) (s' : Shared), CX [] H s₁ (fun _ _ _ => False) e s' → False) :
    codeAny (model P w) callerA (Code.call (Value.ref fa) { pos := [Value.ref a] }) (fun r s' => r = Except.ok (Flow.ret (Value.bool true)) ∧ OldK s₁.heap s'.heap ∧ s'.os = s₁.os ∧ PyProof.Rows.AllBare s'.gens) s₁ := by
  have rv := vals_ints hi
  have lenV := PyProof.Rows.IntsAre.length hi
  have core : ∀ H : Hp, Only H → SqL K H a (List.map V.int ns) → HOk P w H s₁.heap → (∀ b, H b ≠ none → b = a) → (H a ≠ none → List.lookup a K = none) →
      codeAny (model P w) callerA (Code.call (Value.ref fa) { pos := [Value.ref a] }) (fun r s' => r = Except.ok (Flow.ret (Value.bool true)) ∧ OldK s₁.heap s'.heap ∧ s'.os = s₁.os ∧ PyProof.Rows.AllBare s'.gens) s₁ := by
    intro H hO hS hok hA hK
    have isA : ∀ {b : Addr} {u : HO}, H b = some u → b = a := fun {b u} hh => hA b (by rw [hh]; exact fun z => nomatch z)
    have noA : ∀ {b : Addr} {o : Obj} {es ep}, s₁.heap.get? b = some o → o.data = Data.dict es ep → H b = none := by
      intro b o es ep e d
      cases hh : H b with
      | none => rfl
      | some u =>
        rw [isA hh, ha] at e
        rw [← Option.some.inj e] at d
        cases d
    have nsK : ∀ {b : Addr} {m : Str → Option Value}, s₁.heap.Ns b m → (hidT s₁.heap H).Ns b m := fun {b m} z => by
      obtain ⟨o, es, ep, e, d, r⟩ := z
      exact ⟨o, es, ep, hidT_get e (noA e d), d, r⟩
    have hKb : K.In (hidT s₁.heap H) := fun b o e => hidT_get (KX b o e) (by
      cases hh : H b with
      | none => rfl
      | some u =>
        rw [isA hh, hK (by rw [isA hh] at hh; rw [hh]; exact fun z => nomatch z)] at e
        cases e)
    have hM : L2.Mod K mg (hidT s₁.heap H) := ⟨hKb, nsK hns, ⟨mb, nsK hb, hbb⟩, let ⟨mc, h1, h2⟩ := hlim; ⟨mc, nsK h1, h2⟩⟩
    have e0 : Env0 P w K mg (hidT s₁.heap H) callerA [] s₁ H := ⟨rfl, hM, fun b o e => of_hidT e, Nat.le_of_eq (hidT_size ..), trivial, fun b hb => (nomatch hb), hok, .of_eq hg⟩
    refine codeAny_mono ((F _ hKb (nsK hns)).run callerA [] s₁ H ⟨[.ref a], []⟩ [.ref a] [.ref a] (fun v _ => v = .bl true) (fun _ _ _ => False) rfl hr e0 (hbind s₁ (.ref a)) (.cons rfl .nil) (hsp H hO hS)) fun r s' h => ?_
    cases r with
    | error e => exact (hCX H e s' h).elim
    | ok fl =>
      cases fl with
      | ret u =>
        obtain ⟨v, H', os, bare, un, hok', r', q⟩ := h
        subst q
        cases r'
        refine ⟨rfl, OldK.of_keep fun b o e => ?_, os, bare⟩
        cases hh : H b with
        | none => exact un.keep b o e hh (fun z => nomatch z) (fun z => nomatch z)
        | some u =>
          rcases hO b with z | ⟨ob, xs, z⟩
          · rw [z] at hh; cases hh
          · have z2 := un.frzs b ob (HO.lst xs) z
            have e1 := (hok b _ z).1
            have e2 := (hok' b _ z2).1
            rw [e] at e1
            rw [Option.some.inj e1]
            exact e2
      | _ => exact h.elim
  cases hk : List.lookup a K with
  | none =>
    have at_a : (fun b => if b = a then some (HO.frz { cls := Value.type "list", data := Data.seq vs.toArray } (HO.lst (List.map V.int ns))) else none : Hp) a = some (HO.frz { cls := Value.type "list", data := Data.seq vs.toArray } (HO.lst (List.map V.int ns))) := if_pos rfl
    refine core (fun b => if b = a then some (HO.frz { cls := Value.type "list", data := Data.seq vs.toArray } (HO.lst (List.map V.int ns))) else none) (fun b => ?_) (.inl (.inr ⟨_, at_a⟩)) (fun b u z => ?_) (fun b z => ?_) (fun _ => hk)
    · by_cases hb : b = a
      · exact .inr ⟨_, _, if_pos hb⟩
      · exact .inl (if_neg hb)
    · by_cases hb : b = a
      · have z' := Eq.trans (Eq.symm (if_pos hb)) z
        cases z'
        subst hb
        exact ⟨ha, by rw [List.length_map]; exact hl, vs, 0, rv, ha⟩
      · have z' := Eq.trans (Eq.symm (if_neg hb)) z
        cases z'
    · by_cases hb : b = a
      · exact hb
      · exact absurd (if_neg hb) z
  | some o =>
    have e := KX a o hk
    rw [ha] at e
    cases e
    exact core (fun _ => none) (fun _ => .inl rfl) (.inr ⟨_, vs.toArray, 0, hk, rfl, rfl, rfl, by rw [List.size_toArray, lenV]; exact hl, rv⟩) (fun b u z => nomatch z) (fun b z => absurd rfl z) (fun z => absurd rfl z)
def LawAtG (l : PySem.W.OpenLaw) (w : World) (K : PySem.W.Frag) (k : Nat) (mg : Str → Option Value) (fa : Addr) : Prop :=
  ∃ (fd : FuncData) (sp : Sp), (∀ (s : Shared) (u : Value), BindsTo s fd { pos := [u] } [("_law_script", u)]) ∧ (∀ (H : Hp) (a : Addr) (ns : List Int), ns.length ≤ 63 → SqL K H a (List.map V.int ns) → sp [V.ref a] H (fun v _ => v = V.bl true) fun _ _ _ => False) ∧
    ∀ (base : Heap), K.In base → base.Ns mainGlobals mg → FnG l.prog w K mg base CX0 k fa fd ["_law_script"] sp
theorem law_endG {l : PySem.W.OpenLaw} {k : Nat} {q : Program} {loose : List Str} {XP : (Str → Option Value) → Heap → Prop} {YP : World → Heap → Prop} {d : DefRec} {K : Params → PySem.W.Frag} (most : l.most = some 63) (plain : d.params.defaults = []) (room : Room k callerA)
    (part : ∀ w h, YP w h → (K w.params).In h) (made : ∀ (w : World) (mg : Str → Option Value) (f : Addr) (h : Heap), (K w.params).In h → h.Ns mainGlobals mg → mg d.name = some (.ref f) → LawAtG l w (K w.params) k mg f) : PySem.W.WalkO q loose XP YP l.row.toRowW d [] (fun f vs => PySem.call f vs) := by
  refine Att.attach_callB most plain ?_
  intro w _ s₁ mg _ f _ _ _ _ a vs ns ground said _ _ _ name script nums len size still
  have X := part w _ said
  obtain ⟨fd, sp, e4, e5, e6⟩ := made w mg f _ X ground.T.g name
  exact law_callG X ground.T.g ground.T.b ground.T.builtins ground.T.nolimit still script nums (Nat.le_trans len (by decide)) room e6 e4 (fun H z1 z2 => e5 H a ns len z2) fun _ _ _ z => z

/-- an expression, then a word of what it gives: what follows is shown once -/
def tMid (te : TE) : TE := fun σ H Q => ∃ M : V → Hp → Prop, te σ H M ∧ ∀ v H', M v H' → Q v H'
theorem pe_mid {X : Cx} {e : Expr} {te : TE} (h : PE X e te) : PE X e (tMid te) := ⟨fun pins s σ H Q I ⟨M, h1, h2⟩ => thn (h.run pins s σ H M I h1) fun _ _ ⟨y, H1, I1, r, q⟩ => ⟨y, H1, I1, r, h2 _ _ q⟩⟩

/-! ### things as data; of the lists among them this holds -/
inductive DatN (N : Addr → Prop) (H : Hp) : V → PyData → Prop
  | non : DatN N H .non .none
  | bl (b : Bool) : DatN N H (.bl b) (.bool b)
  | int (i : Int) : DatN N H (.int i) (.int i)
  | str (x : Str) : DatN N H (.str x) (.str x)
  | lst {a : Addr} {xs : List V} {ds : List PyData} : N a → H a = some (.lst xs) → xs.length = ds.length → (∀ (i : Nat) x d, xs[i]? = some x → ds[i]? = some d → DatN N H x d) → DatN N H (.ref a) (.list ds)
  | tup {a : Addr} {xs : List V} {ds : List PyData} : H a = some (.tup xs) → xs.length = ds.length → (∀ (i : Nat) x d, xs[i]? = some x → ds[i]? = some d → DatN N H x d) → DatN N H (.ref a) (.tuple ds)
/-- tuples stay, and the lists of which this holds -/
structure Kps (N : Addr → Prop) (H H' : Hp) : Prop where
  tup : ∀ a xs, H a = some (.tup xs) → H' a = some (.tup xs)
  lst : ∀ a xs, N a → H a = some (.lst xs) → H' a = some (.lst xs)
theorem Kps.same {N : Addr → Prop} {H H' : Hp} (s : Same H H') : Kps N H H' := ⟨fun a xs e => s a _ e, fun a xs _ e => s a _ e⟩
theorem Kps.kp {N : Addr → Prop} {H H' : Hp} {d c : Addr} {t : Int} (k : Kp d c H H') (S : StAt H d c t) (hN : ∀ a, N a → a ≠ c) : Kps N H H' :=
  ⟨fun a xs e => k.tup S e, fun a xs n e => k a _ (fun z => by rw [z, S.dict] at e; cases e) (hN a n) e⟩
theorem Kps.upd {N : Addr → Prop} {H : Hp} {D : Addr} {ys : List V} {o : HO} (e : H D = some (.lst ys)) (hN : ∀ a, N a → a ≠ D) : Kps N H (upd H D o) :=
  ⟨fun a xs f => by rw [upd_ne (ne_of f e (fun z => nomatch z))]; exact f, fun a xs n f => by rw [upd_ne (hN a n)]; exact f⟩
theorem Kps.upd_dK {N : Addr → Prop} {H : Hp} {D : Addr} {ks : List (Key × V)} {o : HO} (e : H D = some (.dK ks)) : Kps N H (L2.upd H D o) :=
  ⟨fun a xs f => by rw [upd_ne (ne_of f e (fun z => nomatch z))]; exact f, fun a xs n f => by rw [upd_ne (ne_of f e (fun z => nomatch z))]; exact f⟩
theorem Kps.trans {N : Addr → Prop} {H H1 H2 : Hp} (a : Kps N H H1) (b : Kps N H1 H2) : Kps N H H2 := ⟨fun x xs e => b.tup x xs (a.tup x xs e), fun x xs n e => b.lst x xs n (a.lst x xs n e)⟩
theorem DatN.keep {N : Addr → Prop} {H H' : Hp} {v : V} {d : PyData} (h : DatN N H v d) (k : Kps N H H') : DatN N H' v d := by
  induction h with
  | non => exact .non
  | bl b => exact .bl b
  | int i => exact .int i
  | str x => exact .str x
  | lst n e l _ ih => exact .lst n (k.lst _ _ n e) l ih
  | tup e l _ ih => exact .tup (k.tup _ _ e) l ih
theorem DatN.same {N : Addr → Prop} {H H' : Hp} {v : V} {d : PyData} (h : DatN N H v d) (s : Same H H') : DatN N H' v d := h.keep (.same s)
theorem DatN.weak {N N' : Addr → Prop} {H : Hp} {v : V} {d : PyData} (h : DatN N H v d) (w : ∀ a xs, N a → H a = some (.lst xs) → N' a) : DatN N' H v d := by
  induction h with
  | non => exact .non
  | bl b => exact .bl b
  | int i => exact .int i
  | str x => exact .str x
  | lst n e l _ ih => exact .lst (w _ _ n e) e l ih
  | tup e l _ ih => exact .tup e l ih
theorem DatN.dat {N : Addr → Prop} {H : Hp} {v : V} {d : PyData} (h : DatN N H v d) : Dat H v d := by
  induction h with
  | non => exact .non
  | bl b => exact .bl b
  | int i => exact .int i
  | str x => exact .str x
  | lst n e l _ ih => exact .lst e l ih
  | tup e l _ ih => exact .tup e l ih
theorem dpAll_of {K : PySem.W.Frag} {H : Hp} : ∀ {xs : List V} {ds : List PyData}, xs.length = ds.length → (∀ (i : Nat) x d, xs[i]? = some x → ds[i]? = some d → Dp K H x d) → DpAll K H xs ds
  | [], [], _, _ => .nil
  | [], _ :: _, e, _ => nomatch e
  | _ :: _, [], e, _ => nomatch e
  | x :: xs, d :: ds, e, h => .cons (h 0 x d rfl rfl) (dpAll_of (Nat.succ.inj e) fun i y c e1 e2 => h (i + 1) y c e1 e2)
theorem DatN.dp {K : PySem.W.Frag} {N : Addr → Prop} {H : Hp} {v : V} {d : PyData} (h : DatN N H v d) : Dp K H v d := by
  induction h with
  | non => exact .non
  | bl b => exact .bl b
  | int i => exact .int i
  | str x => exact .str x
  | lst n e l _ ih => exact .lst (SqL.of e) (dpAll_of l ih)
  | tup e l _ ih => exact .tup (.inl (.inl e)) (dpAll_of l ih)
/-- things one by one as data -/
def EchN (N : Addr → Prop) (H : Hp) (xs : List V) (ds : List PyData) : Prop := xs.length = ds.length ∧ ∀ (i : Nat) x d, xs[i]? = some x → ds[i]? = some d → DatN N H x d
theorem EchN.keep {N : Addr → Prop} {H H' : Hp} {xs : List V} {ds : List PyData} (h : EchN N H xs ds) (k : Kps N H H') : EchN N H' xs ds := ⟨h.1, fun i x d e1 e2 => (h.2 i x d e1 e2).keep k⟩
theorem EchN.same {N : Addr → Prop} {H H' : Hp} {xs : List V} {ds : List PyData} (h : EchN N H xs ds) (s : Same H H') : EchN N H' xs ds := h.keep (.same s)
theorem EchN.weak {N N' : Addr → Prop} {H : Hp} {xs : List V} {ds : List PyData} (h : EchN N H xs ds) (w : ∀ a xs, N a → H a = some (.lst xs) → N' a) : EchN N' H xs ds := ⟨h.1, fun i x d e1 e2 => (h.2 i x d e1 e2).weak w⟩
theorem EchN.nil {N : Addr → Prop} {H : Hp} : EchN N H [] [] := ⟨rfl, fun _ _ _ e => nomatch e⟩
theorem EchN.cons {N : Addr → Prop} {H : Hp} {x : V} {d : PyData} {xs : List V} {ds : List PyData} (h : DatN N H x d) (hr : EchN N H xs ds) : EchN N H (x :: xs) (d :: ds) :=
  ⟨congrArg (· + 1) hr.1, fun i y e e1 e2 => by
    cases i with
    | zero => cases e1; cases e2; exact h
    | succ i => exact hr.2 i y e e1 e2⟩
theorem EchN.one {N : Addr → Prop} {H : Hp} {x : V} {d : PyData} (h : DatN N H x d) : EchN N H [x] [d] := .cons h .nil
theorem getElem?_two {α β : Type} {xs ys : List α} {us ws : List β} (l : xs.length = us.length) {i : Nat} {x : α} {u : β} (e1 : (xs ++ ys)[i]? = some x) (e2 : (us ++ ws)[i]? = some u) : (xs[i]? = some x ∧ us[i]? = some u) ∨ (ys[i - xs.length]? = some x ∧ ws[i - xs.length]? = some u) := by
  by_cases hi : i < xs.length
  · rw [List.getElem?_append_left hi] at e1
    rw [List.getElem?_append_left (by omega)] at e2
    exact .inl ⟨e1, e2⟩
  · rw [List.getElem?_append_right (by omega)] at e1 e2
    rw [← l] at e2
    exact .inr ⟨e1, e2⟩
theorem EchN.app {N : Addr → Prop} {H : Hp} {xs ys : List V} {ds es : List PyData} (h : EchN N H xs ds) (h' : EchN N H ys es) : EchN N H (xs ++ ys) (ds ++ es) :=
  ⟨by rw [List.length_append, List.length_append, h.1, h'.1], fun i v p e1 e2 => (getElem?_two h.1 e1 e2).elim (fun z => h.2 i v p z.1 z.2) (fun z => h'.2 _ v p z.1 z.2)⟩
theorem EchN.snoc {N : Addr → Prop} {H : Hp} {xs : List V} {ds : List PyData} {x : V} {d : PyData} (h : EchN N H xs ds) (h' : DatN N H x d) : EchN N H (xs ++ [x]) (ds ++ [d]) := h.app (.one h')
theorem EchN.at {N : Addr → Prop} {H : Hp} {xs : List V} {ds : List PyData} {i : Nat} {x : V} (h : EchN N H xs ds) (e : xs[i]? = some x) : ∃ d, ds[i]? = some d ∧ DatN N H x d := by
  have hi : i < ds.length := by rw [← h.1]; exact (List.getElem?_eq_some_iff.mp e).1
  exact ⟨_, List.getElem?_eq_getElem hi, h.2 i x _ e (List.getElem?_eq_getElem hi)⟩
theorem EchN.atM {α : Type} {N : Addr → Prop} {H : Hp} {xs : List V} {f : α → PyData} {ys : List α} {i : Nat} {x : V} (h : EchN N H xs (ys.map f)) (e : xs[i]? = some x) : ∃ y, ys[i]? = some y ∧ DatN N H x (f y) := by
  obtain ⟨d, e1, e2⟩ := h.at e
  rw [List.getElem?_map] at e1
  cases h : ys[i]? with
  | none => rw [h] at e1; cases e1
  | some y => rw [h] at e1; cases e1; exact ⟨y, rfl, e2⟩
theorem DatN.list {N : Addr → Prop} {H : Hp} {v : V} {ds : List PyData} (h : DatN N H v (.list ds)) : ∃ a xs, v = .ref a ∧ N a ∧ H a = some (.lst xs) ∧ EchN N H xs ds := by
  cases h with
  | lst n e l r => exact ⟨_, _, rfl, n, e, l, r⟩
theorem DatN.tuple {N : Addr → Prop} {H : Hp} {v : V} {ds : List PyData} (h : DatN N H v (.tuple ds)) : ∃ a xs, v = .ref a ∧ H a = some (.tup xs) ∧ EchN N H xs ds := by
  cases h with
  | tup e l r => exact ⟨_, _, rfl, e, l, r⟩
theorem EchN.lst {N : Addr → Prop} {H : Hp} {a : Addr} {xs : List V} {ds : List PyData} (h : EchN N H xs ds) (n : N a) (e : H a = some (.lst xs)) : DatN N H (.ref a) (.list ds) := .lst n e h.1 h.2
theorem EchN.tup {N : Addr → Prop} {H : Hp} {a : Addr} {xs : List V} {ds : List PyData} (h : EchN N H xs ds) (e : H a = some (.tup xs)) : DatN N H (.ref a) (.tuple ds) := .tup e h.1 h.2
theorem EchN.inv {N : Addr → Prop} {H : Hp} {xs : List V} {d : PyData} {ds : List PyData} (h : EchN N H xs (d :: ds)) : ∃ x xs', xs = x :: xs' ∧ DatN N H x d ∧ EchN N H xs' ds := by
  cases xs with
  | nil => exact nomatch h.1
  | cons x xs => exact ⟨x, xs, rfl, h.2 0 x d rfl rfl, Nat.succ.inj h.1, fun i y e e1 e2 => h.2 (i + 1) y e e1 e2⟩
theorem EchN.inv0 {N : Addr → Prop} {H : Hp} {xs : List V} (h : EchN N H xs []) : xs = [] := List.eq_nil_of_length_eq_zero h.1
theorem DatN.inv_int {N : Addr → Prop} {H : Hp} {v : V} {i : Int} (h : DatN N H v (.int i)) : v = .int i := by cases h; rfl
theorem DatN.inv_str {N : Addr → Prop} {H : Hp} {v : V} {x : Str} (h : DatN N H v (.str x)) : v = .str x := by cases h; rfl
theorem DatN.inv_non {N : Addr → Prop} {H : Hp} {v : V} (h : DatN N H v .none) : v = .non := by cases h; rfl
theorem DatN.inv_bl {N : Addr → Prop} {H : Hp} {v : V} {b : Bool} (h : DatN N H v (.bool b)) : v = .bl b := by cases h; rfl
theorem echN_ints {N : Addr → Prop} {H : Hp} (ns : List Int) : EchN N H (ns.map V.int) (ns.map PyData.int) := ⟨by rw [List.length_map, List.length_map], fun i x d e1 e2 => by
  rw [List.getElem?_map] at e1 e2
  cases h : ns[i]? with
  | none => rw [h] at e1; cases e1
  | some n =>
    rw [h] at e1 e2
    cases e1
    cases e2
    exact .int n⟩
theorem echN_strs {N : Addr → Prop} {H : Hp} (ns : List Str) : EchN N H (ns.map V.str) (ns.map PyData.str) := ⟨by rw [List.length_map, List.length_map], fun i x d e1 e2 => by
  rw [List.getElem?_map] at e1 e2
  cases h : ns[i]? with
  | none => rw [h] at e1; cases e1
  | some n =>
    rw [h] at e1 e2
    cases e1
    cases e2
    exact .str n⟩
theorem EchN.ints {N : Addr → Prop} {H : Hp} : ∀ {xs : List V} {ns : List Int}, EchN N H xs (ns.map PyData.int) → xs = ns.map V.int
  | _, [], h => h.inv0
  | _, n :: r, h => by
    obtain ⟨x, xs', rfl, h1, h2⟩ := EchN.inv h
    rw [h1.inv_int, EchN.ints h2]
    rfl
theorem EchN.strs {N : Addr → Prop} {H : Hp} : ∀ {xs : List V} {ns : List Str}, EchN N H xs (ns.map PyData.str) → xs = ns.map V.str
  | _, [], h => h.inv0
  | _, n :: r, h => by
    obtain ⟨x, xs', rfl, h1, h2⟩ := EchN.inv h
    rw [h1.inv_str, EchN.strs h2]
    rfl
/-- pairs of whole numbers -/
theorem _root_.GP.Prs.ech {N : Addr → Prop} {H : Hp} {us : List V} {ps : List (Int × Int)} (h : Prs H us ps) : EchN N H us (ps.map pairD) := ⟨by rw [List.length_map]; exact h.1, fun i x d e1 e2 => by
  obtain ⟨p, a, ep, rfl, ea⟩ := prs_at h e1
  rw [List.getElem?_map, ep] at e2
  cases e2
  exact EchN.tup (.cons (.int _) (.one (.int _))) ea⟩
theorem EchN.prs {N : Addr → Prop} {H : Hp} {us : List V} {ps : List (Int × Int)} (h : EchN N H us (ps.map pairD)) : Prs H us ps := ⟨by have := h.1; rwa [List.length_map] at this, fun i p ep => by
  have hi : i < us.length := by
    rw [h.1, List.length_map]
    exact (List.getElem?_eq_some_iff.mp ep).1
  obtain ⟨y, e1, e2⟩ := h.atM (List.getElem?_eq_getElem hi)
  rw [ep] at e1
  cases e1
  obtain ⟨a, xs, ev, ea, r⟩ := e2.tuple
  obtain ⟨x1, r1, rfl, d1, r2⟩ := r.inv
  obtain ⟨x2, r3, rfl, d2, r4⟩ := r2.inv
  rw [r4.inv0, d1.inv_int, d2.inv_int] at ea
  exact ⟨a, by rw [List.getElem?_eq_getElem hi, ev], ea⟩⟩
/-- new since then -/
abbrev NewIn (H : Hp) : Addr → Prop := fun a => H a = none
def setD (ps : List (Int × Int)) : PyData := .list (ps.map pairD)
/-! ### what can be shown -/
structure Shw (n w : Nat) (d : PyData) : Prop where
  sh : d.showable = true
  nd : d.hasDict = false
  dp : d.depth ≤ n
  ls : d.leavesShort 40 = true
  wt : d.weight ≤ w
theorem Shw.mono {n w n' w' : Nat} {d : PyData} (h : Shw n w d) (h1 : n ≤ n') (h2 : w ≤ w') : Shw n' w' d := ⟨h.sh, h.nd, Nat.le_trans h.dp h1, h.ls, Nat.le_trans h.wt h2⟩
theorem Shw.int {n : Nat} {i : Int} (h : i.natAbs < 10 ^ 39) : Shw n 131 (.int i) := by
  refine ⟨?_, by rw [PyData.hasDict], by rw [PyData.depth]; omega, ?_, ?_⟩
  · rw [PyData.showable]
    by_cases z : i.natAbs = 0
    · rw [z]; decide
    · exact decide_eq_true (Nat.lt_trans ((Nat.log2_lt (k := 130) z).mpr (Nat.lt_trans h (by decide))) (by decide))
  · rw [PyData.leavesShort]
    have e := int_text_length_le10 (k := 39) (by decide) h
    refine decide_eq_true ?_
    show (Str.ofString (toString i)).length ≤ 40
    rw [PySem.ofString_length]
    exact e
  · rw [PyData.weight]
    split
    · omega
    · by_cases z : i.natAbs = 0
      · rw [z]; decide
      · have : i.natAbs.log2 < 130 := (Nat.log2_lt z).mpr (Nat.lt_trans h (by decide))
        omega
theorem Shw.str {n w : Nat} {x : Str} (h : PyData.strOk x = true) (hl : x.length ≤ w) : Shw n w (.str x) := by
  refine ⟨by rw [PyData.showable], by rw [PyData.hasDict], by rw [PyData.depth]; omega, ?_, by rw [PyData.weight]; exact hl⟩
  rw [PyData.leavesShort, List.all_eq_true]
  intro c hc
  have h' : x.cps.all (· < 0x110000) = true := h
  rw [Array.all_eq_true'] at h'
  have := of_decide_eq_true (h' c (by simpa using hc))
  exact decide_eq_true (Nat.lt_trans this (by decide))
theorem Shw.none {n w : Nat} : Shw n w .none := ⟨by rw [PyData.showable], by rw [PyData.hasDict], by rw [PyData.depth]; omega, by rw [PyData.leavesShort], by rw [PyData.weight]; omega⟩
theorem Shw.bool {n w : Nat} {b : Bool} : Shw n w (.bool b) := ⟨by rw [PyData.showable], by rw [PyData.hasDict], by rw [PyData.depth]; omega, by rw [PyData.leavesShort], by rw [PyData.weight]; omega⟩
theorem shwAll : ∀ {n w : Nat} {ds : List PyData}, (∀ d ∈ ds, Shw n w d) → PyData.showableAll ds = true ∧ PyData.hasDictAll ds = false ∧ PyData.depthAll ds ≤ n ∧ PyData.leavesShortAll 40 ds = true ∧ PyData.weightAll ds ≤ ds.length * (w + 1)
  | n, w, [], _ => by simp [PyData.leavesShortAll, PyData.weightAll, PyData.showableAll, PyData.hasDictAll, PyData.depthAll]
  | n, w, d :: r, h => by
    obtain ⟨g1, g2, g3, g4, g5⟩ := shwAll (ds := r) fun q hq => h q (List.mem_cons_of_mem _ hq)
    obtain ⟨h1, h2, h3, h4, h5⟩ := h d (List.mem_cons_self ..)
    refine ⟨by rw [PyData.showableAll, h1, g1]; rfl, by rw [PyData.hasDictAll, h2, g2]; rfl, by rw [PyData.depthAll]; omega, by rw [PyData.leavesShortAll, h4, g4]; rfl, ?_⟩
    rw [PyData.weightAll, List.length_cons, Nat.succ_mul]
    omega
theorem Shw.list {n w m W : Nat} {ds : List PyData} (h : ∀ d ∈ ds, Shw n w d) (hl : ds.length ≤ m) (hW : m * (w + 1) ≤ W) : Shw (n + 1) W (.list ds) := by
  obtain ⟨g1, g2, g3, g4, g5⟩ := shwAll h
  have := Nat.mul_le_mul_right (w + 1) hl
  exact ⟨by rw [PyData.showable]; exact g1, by rw [PyData.hasDict]; exact g2, by rw [PyData.depth]; omega, by rw [PyData.leavesShort]; exact g4, by rw [PyData.weight]; omega⟩
theorem Shw.tuple {n w m W : Nat} {ds : List PyData} (h : ∀ d ∈ ds, Shw n w d) (hl : ds.length ≤ m) (hW : m * (w + 1) ≤ W) : Shw (n + 1) W (.tuple ds) := by
  obtain ⟨g1, g2, g3, g4, g5⟩ := shwAll h
  have := Nat.mul_le_mul_right (w + 1) hl
  exact ⟨by rw [PyData.showable]; exact g1, by rw [PyData.hasDict]; exact g2, by rw [PyData.depth]; omega, by rw [PyData.leavesShort]; exact g4, by rw [PyData.weight]; omega⟩
theorem Shw.listM {α : Type} {n w m W : Nat} {f : α → PyData} {ys : List α} (h : ∀ y ∈ ys, Shw n w (f y)) (hl : ys.length ≤ m) (hW : m * (w + 1) ≤ W) : Shw (n + 1) W (.list (ys.map f)) :=
  .list (fun d hd => by obtain ⟨y, hy, rfl⟩ := List.mem_map.mp hd; exact h y hy) (by rw [List.length_map]; exact hl) hW
theorem all2 {α : Type} {P : α → Prop} {x y : α} (h1 : P x) (h2 : P y) : ∀ z ∈ [x, y], P z := fun z hz => by
  rcases List.mem_cons.mp hz with e | e
  · rw [e]; exact h1
  · rw [List.mem_singleton.mp e]; exact h2
theorem all3 {α : Type} {P : α → Prop} {x y u : α} (h1 : P x) (h2 : P y) (h3 : P u) : ∀ z ∈ [x, y, u], P z := fun z hz => by
  rcases List.mem_cons.mp hz with e | e
  · rw [e]; exact h1
  · exact all2 h2 h3 z e
theorem Shw.shown {w : Nat} {d : PyData} (h : Shw 8 w d) (hw : w ≤ 390000) : d.showable = true ∧ d.hasDict = false ∧ d.depth ≤ 8 ∧ d.shown.length ≤ sizeLine :=
  ⟨h.sh, h.nd, h.dp, by
    have z := PyData.shown_le 40 (by decide) d h.ls
    have := h.wt
    exact Nat.le_trans z (Nat.le_trans (show (40 + 2) * d.weight + 40 ≤ 16380040 by omega) (by decide))⟩

/-! ### comprehensions, by what they make -/
/-- a thing's truth, as a test -/
def tTru (K : PySem.W.Frag) (te : TE) : TT := fun σ H Q => te σ H fun x H' => ∃ k, TruV K x H' k ∧ Q k H'
abbrev LcW (J : It) (g : TG) (tt : TT) (te : TE) (vs : List Nat) (σ : L2.St) (D : Addr) (Qd : Hp → Prop) (H1 : Hp) : Prop := ∃ W : Nat → Nat → Hp → Prop, (∃ m, W 0 m (upd H1 D (.lst []))) ∧ ∀ i m H, W i m H →
  (J.stop i H ∧ Qd H) ∨ (J.go i H ∧ ∃ Nx : Hp → Prop, (∀ H', Nx H' → ∃ m', m' < m ∧ W (i + 1) m' H') ∧ ∀ x H', J.yld i H x H' → g x (wipe σ vs) H' fun σ2 H2 => wipe σ2 vs = wipe σ vs ∧ tt σ2 H2 fun b H3 => if b = true then
    te σ2 H3 fun y H4 => ∃ acc, H4 D = some (.lst acc) ∧ acc.length < sizeLine ∧ Nx (upd H4 D (.lst (acc ++ [y]))) else Nx H3)
/-- each item makes something new, all else stays -/
theorem lc_new {J : It} {n : Nat} {G : Hp → Prop} {Y : Nat → Hp → V → Hp → Prop} (w : Walk J n G Y) {g : TG} {tt : TT} {te : TE} {vs : List Nat} {σ : L2.St} {H1 : Hp} {D : Addr} {Qd : Hp → Prop} (ds : List PyData) (nD : H1 D = none) (hn : ds.length = n) (hz : n ≤ 1000) (hG : ∀ H, Same H1 H → G H)
    (turn : ∀ i x d H H' (Kt : V → Hp → Prop) (Kn : Hp → Prop), ds[i]? = some d → Same H1 H → Y i H x H' → (∀ y H4, Same H H4 → DatN (NewIn H) H4 y d → Kt y H4) → g x (wipe σ vs) H' fun σ2 H2 => wipe σ2 vs = wipe σ vs ∧ tt σ2 H2 fun b H3 => if b = true then te σ2 H3 Kt else Kn H3)
    (fin : ∀ H, Same H1 H → DatN (NewIn H1) H (.ref D) (.list ds) → Qd H) : LcW J g tt te vs σ D Qd H1 := by
  refine lc_it w (fun j H => Same H1 H ∧ ∃ ws, H D = some (.lst ws) ∧ EchN (fun a => H1 a = none ∧ a ≠ D) H ws (ds.take j)) ⟨same_upd nD, [], upd_same, .nil⟩ (fun i H _ p => hG H p.1) (fun i x H H' hi hP hy => ?_) (fun H hP => ?_)
  · obtain ⟨sm, ws, eD, hws⟩ := hP
    have hd : ds[i]? = some ds[i] := List.getElem?_eq_getElem (by omega)
    refine turn i x _ H H' _ _ hd sm hy fun y H4 s4 hd4 => ?_
    have eD4 := s4 _ _ eD
    have hl : ws.length ≤ 1000 := by
      rw [hws.1, List.length_take]
      omega
    have hl' : ws.length < 1000 := by
      rw [hws.1, List.length_take]
      omega
    refine ⟨ws, eD4, Nat.lt_of_lt_of_le hl' (by decide), fun b o e => ?_, ws ++ [y], upd_same, ?_⟩
    · rw [upd_ne (ne_of_none e nD)]
      exact s4 _ _ (sm b o e)
    · rw [List.take_add_one, hd]
      have k : Kps (fun a => H1 a = none ∧ a ≠ D) H4 (upd H4 D (.lst (ws ++ [y]))) := .upd eD4 fun a z => z.2
      refine ((hws.same s4).keep k).snoc (DatN.keep (hd4.weak fun a xs (z : H a = none) e => ⟨sm.free z, fun q => ?_⟩) k)
      rw [q, eD] at z
      cases z
  · obtain ⟨sm, ws, eD, hws⟩ := hP
    rw [List.take_of_length_le (by omega)] at hws
    exact fin H sm ((hws.weak fun a _ z _ => z.1).lst nD eD)
/-- each item makes something new by draws -/
theorem lc_draw {α : Type} (f : α → PyData) (R : Nat → α → Prop) (T : Int) {J : It} {n : Nat} {G : Hp → Prop} {Y : Nat → Hp → V → Hp → Prop} (w : Walk J n G Y) {g : TG} {tt : TT} {te : TE} {vs : List Nat} {σ : L2.St} {H1 : Hp} {D d c : Addr} {t1 : Int} {Qd : Hp → Prop} (S1 : StAt H1 d c t1) (nD : H1 D = none) (hz : n ≤ 1000) (hG : ∀ H, Kp d c H1 H → G H)
    (turn : ∀ i x H H' t (Kt : V → Hp → Prop) (Kn : Hp → Prop), i < n → t1 ≤ t → t ≤ t1 + T * (i : Int) → StAt H d c t → Kp d c H1 H → Y i H x H' → (∀ z y t' H4, R i z → DatN (NewIn H) H4 y (f z) → t ≤ t' → t' ≤ t + T → StAt H4 d c t' → Kp d c H H4 → Kt y H4) →
      g x (wipe σ vs) H' fun σ2 H2 => wipe σ2 vs = wipe σ vs ∧ tt σ2 H2 fun b H3 => if b = true then te σ2 H3 Kt else Kn H3)
    (fin : ∀ (H : Hp) (t : Int) (zs : List α), zs.length = n → (∀ (i : Nat) z, zs[i]? = some z → R i z) → t1 ≤ t → t ≤ t1 + T * (n : Int) → StAt H d c t → Kp d c H1 H → DatN (NewIn H1) H (.ref D) (.list (zs.map f)) → Qd H) : LcW J g tt te vs σ D Qd H1 := by
  have off := S1.off nD
  refine lc_it w (fun j H => ∃ (t : Int) (ws : List V) (zs : List α), H D = some (.lst ws) ∧ EchN (fun a => H1 a = none ∧ a ≠ D) H ws (zs.map f) ∧ zs.length = j ∧ (∀ (i : Nat) z, zs[i]? = some z → R i z) ∧ t1 ≤ t ∧ t ≤ t1 + T * (j : Int) ∧ StAt H d c t ∧ Kp d c H1 H)
    ⟨t1, [], [], upd_same, .nil, rfl, (fun _ _ e => nomatch e), Int.le_refl _, by omega, S1.same (same_upd nD), Kp.same d c (same_upd nD)⟩ (fun i H _ hP => ?_) (fun i x H H' hi hP hy => ?_) (fun H hP => ?_)
  · obtain ⟨_, _, _, _, _, _, _, _, _, _, k⟩ := hP
    exact hG H k
  · obtain ⟨t, ws, zs, eD, hws, hzl, hR, t0, t2, hS, k⟩ := hP
    refine turn i x H H' t _ _ hi t0 t2 hS k hy fun z y t' H4 hz' hd4 u0 u1 hS4 k4 => ?_
    have eD4 := k4 _ _ off.1 off.2 eD
    have hwl : ws.length = i := by rw [hws.1, List.length_map, hzl]
    have kk : Kps (fun a => H1 a = none ∧ a ≠ D) H4 (upd H4 D (.lst (ws ++ [y]))) := .upd eD4 fun a z => z.2
    have k1 : Kps (fun a => H1 a = none ∧ a ≠ D) H H4 := .kp k4 hS fun a z q => by
      obtain ⟨cs, ec, _⟩ := S1.cells
      rw [q, ec] at z
      exact nomatch z.1
    refine ⟨ws, eD4, Nat.lt_of_lt_of_le (show ws.length < 1000 by omega) (by decide), t', ws ++ [y], zs ++ [z], upd_same, ?_, by rw [List.length_append, hzl]; rfl, fun j q e => ?_, by omega, ?_, hS4.upd off.1 off.2, fun b o b1 b2 e => ?_⟩
    · rw [List.map_append]
      refine ((hws.keep k1).keep kk).snoc (DatN.keep (hd4.weak fun a xs (z : H a = none) e => ⟨?_, fun q => ?_⟩) kk)
      · cases e1 : H1 a with
        | none => rfl
        | some o =>
          by_cases z1 : a = d
          · rw [z1, hS.dict] at z; cases z
          · by_cases z2 : a = c
            · obtain ⟨cs, ec, _⟩ := hS.cells
              rw [z2, ec] at z; cases z
            · have := k a o z1 z2 e1
              rw [this] at z
              cases z
      · rw [q, eD] at z
        cases z
    · by_cases hj : j < zs.length
      · rw [List.getElem?_append_left hj] at e
        exact hR j q e
      · rw [List.getElem?_append_right (by omega)] at e
        have hj0 : j - zs.length < 1 := (List.getElem?_eq_some_iff.mp e).1
        have ej : j = i := by omega
        subst ej
        rw [hzl, Nat.sub_self] at e
        cases e
        exact hz'
    · have : T * ((i + 1 : Nat) : Int) = T * (i : Int) + T := by
        rw [Int.natCast_add, Int.mul_add]
        omega
      omega
    · rw [upd_ne (ne_of_none e nD)]
      exact k4 b o b1 b2 (k b o b1 b2 e)
  · obtain ⟨t, ws, zs, eD, hws, hzl, hR, t0, t2, hS, k⟩ := hP
    exact fin H t zs hzl hR t0 t2 hS k ((hws.weak fun a _ z _ => z.1).lst nD eD)
/-- those items of which this holds -/
theorem lc_keep {K : PySem.W.Frag} {a : Addr} {xs : List V} (pb : V → Bool) {g : TG} {tt : TT} {te : TE} {vs : List Nat} {σ : L2.St} {H1 : Hp} {D : Addr} {Qd : Hp → Prop} (nD : H1 D = none) (ea : H1 a = some (.lst xs)) (hz : xs.length ≤ 1000)
    (turn : ∀ (i : Nat) (x : V) (H : Hp) (Kt : V → Hp → Prop) (Kn : Hp → Prop), xs[i]? = some x → Same H1 H → (∀ H4, Same H H4 → pb x = true → Kt x H4) → (∀ H4, Same H H4 → pb x = false → Kn H4) → g x (wipe σ vs) H fun σ2 H2 => wipe σ2 vs = wipe σ vs ∧ tt σ2 H2 fun b H3 => if b = true then te σ2 H3 Kt else Kn H3)
    (fin : ∀ H, Same H1 H → H D = some (.lst (xs.filter pb)) → Qd H) : LcW (Itl K a) g tt te vs σ D Qd H1 := by
  refine lc_it walk_list (fun j H => Same H1 H ∧ H D = some (.lst ((xs.take j).filter pb))) ⟨same_upd nD, upd_same⟩ (fun i H _ p => SqL.of (p.1 _ _ ea)) (fun i x H H' hi hP hy => ?_) (fun H hP => ?_)
  · obtain ⟨sm, eD⟩ := hP
    obtain ⟨rfl, hx⟩ := hy
    have et : (xs.take (i + 1)).filter pb = (xs.take i).filter pb ++ (if pb x = true then [x] else []) := by
      rw [List.take_add_one, hx, List.filter_append]
      by_cases c : pb x = true
      · rw [if_pos c]
        show _ ++ List.filter pb [x] = _
        rw [List.filter_cons_of_pos c]
        rfl
      · rw [if_neg c]
        show _ ++ List.filter pb [x] = _
        rw [List.filter_cons_of_neg c]
        rfl
    have hl : ((xs.take i).filter pb).length ≤ i := Nat.le_trans (List.length_filter_le ..) (by rw [List.length_take]; omega)
    refine turn i x H' _ _ hx sm (fun H4 s4 c => ?_) (fun H4 s4 c => ?_)
    · refine ⟨_, s4 _ _ eD, Nat.lt_of_lt_of_le (show _ < 1000 by omega) (by decide), fun b o e => ?_, ?_⟩
      · rw [upd_ne (ne_of_none e nD)]
        exact s4 _ _ (sm b o e)
      · rw [upd_same, et, if_pos c]
    · refine ⟨sm.trans s4, ?_⟩
      rw [et, if_neg (by rw [c]; decide), List.append_nil]
      exact s4 _ _ eD
  · obtain ⟨sm, eD⟩ := hP
    rw [List.take_length] at eD
    exact fin H sm eD
theorem lc_new_seq {K : PySem.W.Frag} {a : Addr} {xs : List V} {g : TG} {tt : TT} {te : TE} {vs : List Nat} {σ : L2.St} {H1 : Hp} {Qd : Addr → Hp → Prop} (hq : SqH H1 a xs) (ds : List PyData) (hn : ds.length = xs.length) (hz : xs.length ≤ 1000)
    (turn : ∀ (i : Nat) (x : V) (d : PyData) (H : Hp) (Kt : V → Hp → Prop) (Kn : Hp → Prop), xs[i]? = some x → ds[i]? = some d → Same H1 H → (∀ y H4, Same H H4 → DatN (NewIn H) H4 y d → Kt y H4) → g x (wipe σ vs) H fun σ2 H2 => wipe σ2 vs = wipe σ vs ∧ tt σ2 H2 fun b H3 => if b = true then te σ2 H3 Kt else Kn H3)
    (fin : ∀ D H, H1 D = none → Same H1 H → DatN (NewIn H1) H (.ref D) (.list ds) → Qd D H) :
    ((∃ xs, SqL K H1 a xs) ∧ ∀ D, H1 D = none → LcR (Itl K a) g tt te vs σ D Qd H1) ∨ ((∃ xs, SqT K H1 a xs) ∧ ∀ D, H1 D = none → LcR (Itt K a) g tt te vs σ D Qd H1) := by
  rcases hq with h | h
  · exact .inl ⟨⟨xs, SqL.of h⟩, fun D nD => lc_new (walk_list (xs := xs)) ds nD hn hz (fun H s => SqL.of (s _ _ h)) (fun i x d H H' Kt Kn hd sm hy k => by obtain ⟨rfl, hx⟩ := hy; exact turn i x d H' Kt Kn hx hd sm k) (fun H s d => fin D H nD s d)⟩
  · exact .inr ⟨⟨xs, .inl (.inl h)⟩, fun D nD => lc_new (walk_tup (xs := xs)) ds nD hn hz (fun H s => .inl (.inl (s _ _ h))) (fun i x d H H' Kt Kn hd sm hy k => by obtain ⟨rfl, hx⟩ := hy; exact turn i x d H' Kt Kn hx hd sm k) (fun H s d => fin D H nD s d)⟩
theorem lc_new_list {K : PySem.W.Frag} {a : Addr} {xs : List V} {g : TG} {tt : TT} {te : TE} {vs : List Nat} {σ : L2.St} {H1 : Hp} {D : Addr} {Qd : Hp → Prop} (nD : H1 D = none) (hq : H1 a = some (.lst xs)) (ds : List PyData) (hn : ds.length = xs.length) (hz : xs.length ≤ 1000)
    (turn : ∀ (i : Nat) (x : V) (d : PyData) (H : Hp) (Kt : V → Hp → Prop) (Kn : Hp → Prop), xs[i]? = some x → ds[i]? = some d → Same H1 H → (∀ y H4, Same H H4 → DatN (NewIn H) H4 y d → Kt y H4) → g x (wipe σ vs) H fun σ2 H2 => wipe σ2 vs = wipe σ vs ∧ tt σ2 H2 fun b H3 => if b = true then te σ2 H3 Kt else Kn H3)
    (fin : ∀ H, Same H1 H → DatN (NewIn H1) H (.ref D) (.list ds) → Qd H) : LcW (Itl K a) g tt te vs σ D Qd H1 :=
  lc_new (walk_list (xs := xs)) ds nD hn hz (fun H s => SqL.of (s _ _ hq)) (fun i x d H H' Kt Kn hd sm hy k => by obtain ⟨rfl, hx⟩ := hy; exact turn i x d H' Kt Kn hx hd sm k) fin

theorem nodup_len {α : Type} [DecidableEq α] : ∀ {l m : List α}, l.Nodup → (∀ x ∈ l, x ∈ m) → l.length ≤ m.length
  | [], _, _, _ => Nat.zero_le _
  | x :: r, m, nd, h => by
    have nx := (List.nodup_cons.mp nd).1
    have ih := nodup_len (m := m.erase x) (List.nodup_cons.mp nd).2 fun y hy => by
      have hne : y ≠ x := fun e => nx (e ▸ hy)
      exact (List.mem_erase_of_ne hne).mpr (h y (List.mem_cons_of_mem _ hy))
    have e := List.length_erase_of_mem (h x (List.mem_cons_self ..))
    have pos : 0 < m.length := List.length_pos_of_mem (h x (List.mem_cons_self ..))
    rw [List.length_cons]
    omega

open Classical in
/-- the one list of a set -/
noncomputable def canon (pr : Int → Prop) : List (Int × Int) := if h : ∃ rs, Told pr rs then Classical.choose h else []
theorem Told.canon {pr : Int → Prop} {rs : List (Int × Int)} (h : Told pr rs) : rs = canon pr := by
  unfold TK.canon
  rw [dif_pos ⟨rs, h⟩]
  exact h.one (Classical.choose_spec (p := fun rs => Told pr rs) ⟨rs, h⟩) fun _ => Iff.rfl
theorem canon_cong {pr pr' : Int → Prop} (h : ∀ n, pr n ↔ pr' n) : canon pr = canon pr' := by rw [show pr = pr' from funext fun n => propext (h n)]

/-! ### numbers within their bounds; texts as lists of signs -/
theorem mulw {i j : Int} (hi : i.natAbs < 2 ^ 250) (hj : j.natAbs < 2 ^ 250) : CMulW i j := wide_mul hi hj (by decide) (by decide) (by decide)
theorem divw {i j : Int} (h : 0 < j) (hj : j.natAbs < 2 ^ 250) : CDivW i j := wide_div h hj (by decide) (by decide)
theorem S_of (z : Str) : z = SX.S z.cps.toList := (SX.S_tl z).symm
theorem S_cps (a : List Nat) : (SX.S a).cps.toList = a := by simp [SX.S]
theorem cutS_take (a : List Nat) (k : Nat) : cutS (SX.S a) none (some (k : Int)) = SX.S (a.take k) := by
  unfold cutS
  rw [HT.sIx_none, HT.sIx_nat, SX.S_len, S_cps, List.drop_zero, Nat.sub_zero]
  by_cases h : k ≤ a.length
  · rw [Nat.min_eq_left h]
  · rw [Nat.min_eq_right (by omega), List.take_of_length_le (Nat.le_refl _), List.take_of_length_le (by omega)]
theorem cutS_drop (a : List Nat) (k : Nat) : cutS (SX.S a) (some (k : Int)) none = SX.S (a.drop k) := by
  unfold cutS
  rw [HT.sIx_none, HT.sIx_nat, SX.S_len, S_cps]
  by_cases h : k ≤ a.length
  · rw [Nat.min_eq_left h, List.take_of_length_le (by rw [List.length_drop]; omega)]
  · rw [Nat.min_eq_right (by omega), List.drop_eq_nil_of_le (Nat.le_refl _), List.drop_eq_nil_of_le (by omega), List.take_nil]
theorem cutS_mid (a : List Nat) (i j : Nat) : cutS (SX.S a) (some (i : Int)) (some (j : Int)) = SX.S ((a.drop i).take (j - i)) := by
  unfold cutS
  rw [HT.sIx_nat, HT.sIx_nat, SX.S_len, S_cps]
  by_cases h : i ≤ a.length
  · rw [Nat.min_eq_left h]
    by_cases h2 : j ≤ a.length
    · rw [Nat.min_eq_left h2]
    · rw [Nat.min_eq_right (by omega), List.take_of_length_le (by rw [List.length_drop]; omega), List.take_of_length_le (by rw [List.length_drop]; omega)]
  · rw [Nat.min_eq_right (by omega : a.length ≤ i), List.drop_eq_nil_of_le (Nat.le_refl _), List.drop_eq_nil_of_le (by omega), List.take_nil, List.take_nil]
/-- the sign at a place within -/
theorem sign_at {a : List Nat} {j : Nat} (h : j < a.length) : atI (SX.S a).cps.toList (j : Int) = some a[j] := by
  rw [S_cps]
  exact atI_nat (List.getElem?_eq_getElem h)
theorem S_le {a : List Nat} (h : a.length ≤ 10000) : (SX.S a).length ≤ sizeLine := by rw [SX.S_len]; exact Nat.le_trans h (by decide)
theorem strOk_S {a : List Nat} (h : ∀ c ∈ a, c < 1114112) : PyData.strOk (SX.S a) = true := by
  show (Array.all _ _) = true
  rw [Array.all_eq_true']
  intro c hc
  exact decide_eq_true (h c (by simpa using hc))
theorem join_signs (cs : List Nat) : Txt.join "" (cs.map sgS) = SX.S cs := by
  have z := SX.join_S [] (cs.map fun c => [c])
  rw [joinL_ones, List.map_map] at z
  exact z
theorem join_fits {cs : List Nat} (h : cs.length ≤ 10000) : ((cs.map sgS).map (·.length)).sum + (cs.map sgS).length * ("" : Str).length ≤ 16777216 := by
  have e : ∀ cs : List Nat, ((cs.map sgS).map (·.length)).sum = cs.length := fun cs => by
    induction cs with
    | nil => rfl
    | cons c r ih =>
      rw [List.map_cons, List.map_cons, List.sum_cons, ih, List.length_cons]
      show 1 + r.length = r.length + 1
      omega
  rw [e, show ("" : Str).length = 0 from rfl, Nat.mul_zero]
  omega

/-! ## generator expressions: a frame of their own, its rules those of any body -/
namespace GX
open PySem PySem.Spec PyProof.Rows L2 GenW
/-- the object at c is a code object with its table at P -/
def CodeG (c P : Addr) : HO := .ext fun h => PySem.W.CodeHd h c P
theorem codeG_ne {c P : Addr} (ps : Array Value) : CodeG c P ≠ .tbl ps := fun z => by
  unfold CodeG at z
  cases z
/-- all but tables stands, tables stay tables -/
structure NoTab (H H2 : Hp) : Prop where
  keep : ∀ b o, H b = some o → (∀ ps, o ≠ .tbl ps) → H2 b = some o
  tab : ∀ b ps, H b = some (.tbl ps) → ∃ qs, H2 b = some (.tbl qs)
theorem NoTab.refl (H : Hp) : NoTab H H := ⟨fun _ _ e _ => e, fun _ ps e => ⟨ps, e⟩⟩
theorem NoTab.trans {H H1 H2 : Hp} (a : NoTab H H1) (b : NoTab H1 H2) : NoTab H H2 := ⟨fun x o e n => b.keep x o (a.keep x o e n) n, fun x ps e => let ⟨qs, e1⟩ := a.tab x ps e; b.tab x qs e1⟩
theorem NoTab.of {H H1 : Hp} (k : ∀ b o, H b = some o → H1 b = some o) : NoTab H H1 := ⟨fun b o e _ => k b o e, fun b ps e => ⟨ps, k _ _ e⟩⟩
theorem NoTab.free {H H1 : Hp} {p : Addr} (n : NoTab H H1) (h : H1 p = none) : H p = none := by
  cases e : H p with
  | none => rfl
  | some o =>
    by_cases ct : ∃ q, o = .tbl q
    · obtain ⟨q, rfl⟩ := ct
      obtain ⟨qs, e1⟩ := n.tab p q e
      rw [h] at e1
      cases e1
    · have e1 := n.keep p o e fun ps z => ct ⟨ps, z⟩
      rw [h] at e1
      cases e1
theorem NoTab.lst {H H1 : Hp} {a : Addr} {xs : List V} (n : NoTab H H1) (e : H a = some (.lst xs)) : H1 a = some (.lst xs) := n.keep _ _ e fun _ z => nomatch z
theorem NoTab.tup {H H1 : Hp} {a : Addr} {xs : List V} (n : NoTab H H1) (e : H a = some (.tup xs)) : H1 a = some (.tup xs) := n.keep _ _ e fun _ z => nomatch z
theorem NoTab.code {H H1 : Hp} {a c P : Addr} (n : NoTab H H1) (e : H a = some (CodeG c P)) : H1 a = some (CodeG c P) := n.keep _ _ e codeG_ne
theorem NoTab.sqL {K : PySem.W.Frag} {H H1 : Hp} {a : Addr} {xs : List V} (n : NoTab H H1) (h : SqL K H a xs) : SqL K H1 a xs :=
  h.elim (fun z => z.elim (fun e => .inl (.inl (n.lst e))) fun ⟨o, e⟩ => .inl (.inr ⟨o, n.keep _ _ e fun _ z => nomatch z⟩)) .inr
theorem NoTab.sqT {K : PySem.W.Frag} {H H1 : Hp} {a : Addr} {xs : List V} (n : NoTab H H1) (h : SqT K H a xs) : SqT K H1 a xs :=
  h.elim (fun z => z.elim (fun e => .inl (.inl (n.tup e))) fun ⟨o, e⟩ => .inl (.inr ⟨o, n.keep _ _ e fun _ z => nomatch z⟩)) .inr
/-- a list that was new may change -/
theorem NoTab.new {H H1 : Hp} {a : Addr} {o : HO} (n : NoTab H H1) (e : H a = none) : NoTab H (L2.upd H1 a o) :=
  ⟨fun b u hb nt => by rw [upd_ne (ne_of_none hb e)]; exact n.keep b u hb nt, fun b ps hb => let ⟨qs, e1⟩ := n.tab b ps hb; ⟨qs, by rw [upd_ne (ne_of_none hb e)]; exact e1⟩⟩
/-- the table at P: each code object that it tells is known, and its own table, which is none of Xs -/
def TabQ (Xs : List Addr) (H : Hp) (P : Addr) : Prop := ∃ ps : Array Value, H P = some (.tbl ps) ∧ TriplesOk ps.toList ∧ ∀ (pos : Pos) (cv : Value), codeAmong pos ps.toList = some cv → ∃ c' P', cv = .ref c' ∧ H c' = some (CodeG c' P') ∧ P' ∉ Xs ∧ GxR.TabG H P'
theorem TabQ.nil {Xs : List Addr} {H : Hp} {P : Addr} (h : H P = some (.tbl #[])) : TabQ Xs H P := ⟨#[], h, True.intro, fun pos cv hc => by
  have z : codeAmong pos [] = some cv := hc
  simp [codeAmong] at z⟩
/-- the tables of the defs that hold generator expressions, those of lambdas with their names -/
structure Mq where
  ms : List Addr
  ls : List (Addr × Str)
instance : Membership Addr Mq := ⟨fun M a => a ∈ M.ms⟩
theorem Mq.mem {M : Mq} {a : Addr} : a ∈ M ↔ a ∈ M.ms := Iff.rfl
/-- the tables at Ms, of the defs that hold generator expressions or lambdas; Xs: all tables of defs -/
structure TQ (Ms : Mq) (Xs : List Addr) (H : Hp) : Prop where
  all : ∀ x ∈ Xs, ∃ ps, H x = some (.tbl ps)
  gx : ∀ m ∈ Ms, TabQ Xs H m ∧ m ∈ Xs
  lam : ∀ l ∈ Ms.ls, l.1 ∈ Xs ∧ l.1 ∉ Ms.ms ∧ LamX.TabS H l.1 l.2
theorem tabS_keep {H H2 : Hp} {P : Addr} {q : Str} (t : LamX.TabS H P q) (k : ∀ ps, H P = some (.tbl ps) → H2 P = some (.tbl ps)) (ko : ∀ b c q, H b = some (LamX.CodeO c q) → H2 b = some (LamX.CodeO c q)) : LamX.TabS H2 P q := by
  obtain ⟨ps, a, b, c⟩ := t
  refine ⟨ps, k _ a, b, fun pos cv hc => ?_⟩
  obtain ⟨c', e1, e2⟩ := c pos cv hc
  exact ⟨c', e1, ko _ _ _ e2⟩
theorem codeO_ne {c : Addr} {q : Str} (ps : Array Value) : LamX.CodeO c q ≠ .tbl ps := fun z => by
  unfold LamX.CodeO at z
  cases z
theorem tabG_same {H H2 : Hp} {P : Addr} (h : GxR.TabG H P) (k : ∀ b o, H b = some o → H2 b = some o) : GxR.TabG H2 P := let ⟨ps, a, b⟩ := h; ⟨ps, k _ _ a, b⟩
theorem TQ.same {Ms : Mq} {Xs : List Addr} {H H2 : Hp} (h : TQ Ms Xs H) (k : ∀ b o, H b = some o → H2 b = some o) : TQ Ms Xs H2 := by
  refine ⟨fun x hx => let ⟨ps, e⟩ := h.all x hx; ⟨ps, k _ _ e⟩, fun m hm => ?_, fun l hl => let ⟨a, b, c⟩ := h.lam l hl; ⟨a, b, c.ext k⟩⟩
  obtain ⟨⟨ps, a, b, c⟩, hx⟩ := h.gx m hm
  refine ⟨⟨ps, k _ _ a, b, fun pos cv hc => ?_⟩, hx⟩
  obtain ⟨c', P', e1, e2, e3, e4⟩ := c pos cv hc
  exact ⟨c', P', e1, k _ _ e2, e3, tabG_same e4 k⟩
/-- all that is no table may change, where no code object does -/
theorem TQ.keep {Ms : Mq} {Xs : List Addr} {H H2 : Hp} (h : TQ Ms Xs H) (k : ∀ b ps, H b = some (.tbl ps) → H2 b = some (.tbl ps)) (kc : ∀ b c P, H b = some (CodeG c P) → H2 b = some (CodeG c P)) (ko : ∀ b c q, H b = some (LamX.CodeO c q) → H2 b = some (LamX.CodeO c q)) : TQ Ms Xs H2 := by
  refine ⟨fun x hx => let ⟨ps, e⟩ := h.all x hx; ⟨ps, k _ _ e⟩, fun m hm => ?_, fun l hl => let ⟨a, b, c⟩ := h.lam l hl; ⟨a, b, tabS_keep c (k _) ko⟩⟩
  obtain ⟨⟨ps, a, b, c⟩, hx⟩ := h.gx m hm
  refine ⟨⟨ps, k _ _ a, b, fun pos cv hc => ?_⟩, hx⟩
  obtain ⟨c', P', e1, e2, e3, q, f1, f2⟩ := c pos cv hc
  exact ⟨c', P', e1, kc _ _ _ e2, e3, q, k _ _ f1, f2⟩
theorem TQ.upd {Ms : Mq} {Xs : List Addr} {H : Hp} {l : Addr} {xs : List V} {o : HO} (h : TQ Ms Xs H) (e : H l = some (.lst xs)) : TQ Ms Xs (L2.upd H l o) :=
  h.keep (fun b ps hb => by rw [upd_ne (ne_of hb e (fun z => nomatch z))]; exact hb) (fun b c P hb => by rw [upd_ne (ne_of hb e (fun z => by unfold CodeG at z; cases z))]; exact hb) (fun b c q hb => by rw [upd_ne (ne_of hb e (fun z => by unfold LamX.CodeO at z; cases z))]; exact hb)
/-- all but the object at P stands -/
def But (P : Addr) (H H2 : Hp) : Prop := ∀ b o, b ≠ P → H b = some o → H2 b = some o
theorem But.noTab {P : Addr} {H H2 : Hp} (h : But P H H2) {q q2 : Array Value} (e : H P = some (.tbl q)) (e2 : H2 P = some (.tbl q2)) : NoTab H H2 :=
  ⟨fun b o hb n => h b o (fun z => n q (by rw [z, e] at hb; exact (Option.some.inj hb).symm)) hb, fun b ps hb => by
    by_cases z : b = P
    · exact ⟨q2, by rw [z]; exact e2⟩
    · exact ⟨ps, h b _ z hb⟩⟩
/-- a table that is none of a def's has grown -/
theorem TQ.but {Ms : Mq} {Xs : List Addr} {H H2 : Hp} {P : Addr} (h : TQ Ms Xs H) (n : P ∉ Xs) (t : GxR.TabG H P) (t2 : GxR.TabG H2 P) (k : But P H H2) : TQ Ms Xs H2 := by
  obtain ⟨q0, hq0, _⟩ := t
  refine ⟨fun x hx => let ⟨ps, e⟩ := h.all x hx; ⟨ps, k _ _ (fun z => n (z ▸ hx)) e⟩, fun m hm => ?_, fun l hl => let ⟨a, b, c⟩ := h.lam l hl; ⟨a, b, tabS_keep c (fun _ => k _ _ (fun z => n (z ▸ a))) fun b c q e => k _ _ (ne_of e hq0 (codeO_ne q0)) e⟩⟩
  obtain ⟨⟨ps, a, b, c⟩, hx⟩ := h.gx m hm
  refine ⟨⟨ps, k _ _ (fun z => n (z ▸ hx)) a, b, fun pos cv hc => ?_⟩, hx⟩
  obtain ⟨c', P', e1, e2, e3, e4⟩ := c pos cv hc
  refine ⟨c', P', e1, k _ _ (ne_of e2 hq0 (codeG_ne q0)) e2, e3, ?_⟩
  by_cases e : P' = P
  · rw [e]; exact t2
  · obtain ⟨q, h1, h2⟩ := e4
    exact ⟨q, k _ _ e h1, h2⟩
/-- a lambda's own table has grown -/
theorem TQ.lamS {Ms : Mq} {Xs : List Addr} {H H2 : Hp} {P : Addr} {q : Str} (h : TQ Ms Xs H) (hl : (P, q) ∈ Ms.ls) (hu : ∀ l ∈ Ms.ls, l.1 = P → l.2 = q) (t2 : LamX.TabS H2 P q) (k : But P H H2) : TQ Ms Xs H2 := by
  obtain ⟨hX, hM, q0, hq0, _⟩ := h.lam _ hl
  obtain ⟨q2, hq2, _⟩ := id t2
  refine ⟨fun x hx => ?_, fun m hm => ?_, fun l hl' => ?_⟩
  · by_cases e : x = P
    · exact ⟨q2, by rw [e]; exact hq2⟩
    · obtain ⟨ps, e0⟩ := h.all x hx
      exact ⟨ps, k _ _ e e0⟩
  · obtain ⟨⟨ps, a, b, c⟩, hx⟩ := h.gx m hm
    refine ⟨⟨ps, k _ _ (fun z => hM (z ▸ hm)) a, b, fun pos cv hc => ?_⟩, hx⟩
    obtain ⟨c', P', e1, e2, e3, q, h1, h2⟩ := c pos cv hc
    exact ⟨c', P', e1, k _ _ (ne_of e2 hq0 (codeG_ne q0)) e2, e3, q, k _ _ (fun z => e3 (z ▸ hX)) h1, h2⟩
  · obtain ⟨a, b, c⟩ := h.lam l hl'
    refine ⟨a, b, ?_⟩
    by_cases e : l.1 = P
    · rw [e, hu l hl' e]
      exact t2
    · exact tabS_keep c (fun _ => k _ _ e) fun b c q e => k _ _ (ne_of e hq0 (codeO_ne q0)) e
section
variable {X : Cx} {pins : List (Addr × Obj)} {σ : L2.St} {H : Hp} {s : Shared}
theorem codeHd_stay {c P : Addr} {h1 h2 : Heap} (x : PySem.W.CodeHd h1 c P) (k : ∀ o, h1.get? c = some o → h2.get? c = some o) : PySem.W.CodeHd h2 c P :=
  let ⟨o, vs, file, tf, flags, tg, inF, text, tt, e, r⟩ := x; ⟨o, vs, file, tf, flags, tg, inF, text, tt, k _ e, r⟩
/-- the table's object is written, the code object at c and its table at P2 are new -/
theorem inv_code {P c P2 : Addr} {ps more : Array Value} {h' : Heap} {t' : Nat} (I : Inv X pins σ H s) (hP : H P = some (.tbl ps)) (k : ∀ b o, b ≠ P → s.heap.get? b = some o → h'.get? b = some o)
    (hm : h'.get? P = some { cls := .none, data := .fields (ps ++ more) }) (hc : s.heap.objs.size ≤ c) (hp2 : s.heap.objs.size ≤ P2) (ncp : c ≠ P2) (ho : PySem.W.CodeHd h' c P2) (hq : h'.get? P2 = some { cls := .none, data := .fields #[] }) :
    Inv X pins σ (upd (upd (upd H P (.tbl (ps ++ more))) c (CodeG c P2)) P2 (.tbl #[])) { s with heap := h', toks := t' } := by
  have nC : H c = none := I.hok.fresh hc
  have nQ : H P2 = none := I.hok.fresh hp2
  have nPc : P ≠ c := ne_of_none hP nC
  have nPq : P ≠ P2 := ne_of_none hP nQ
  have at_ : ∀ b, b ≠ P → b ≠ c → b ≠ P2 → upd (upd (upd H P (.tbl (ps ++ more))) c (CodeG c P2)) P2 (.tbl #[]) b = H b := fun b h1 h2 h3 => by rw [upd_ne h3, upd_ne h2, upd_ne h1]
  have atP : upd (upd (upd H P (.tbl (ps ++ more))) c (CodeG c P2)) P2 (.tbl #[]) P = some (.tbl (ps ++ more)) := by rw [upd_ne nPq, upd_ne nPc, upd_same]
  have nP : ∀ b u, H b = some u → (∀ q, u ≠ .tbl q) → b ≠ P := fun b u e q z => by
    rw [z, hP] at e
    exact q ps (Option.some.inj e).symm
  have nN : ∀ b, H b = none → b ≠ P := fun b e z => by
    rw [z, hP] at e
    cases e
  have lt' : ∀ b o, s.heap.get? b = some o → b ≠ c ∧ b ≠ P2 := fun b o e => ⟨fun z => by
    rw [z] at e
    exact Nat.lt_irrefl _ (Nat.lt_of_lt_of_le (Heap.lt_size e) hc), fun z => by
    rw [z] at e
    exact Nat.lt_irrefl _ (Nat.lt_of_lt_of_le (Heap.lt_size e) hp2)⟩
  have sm : ∀ b u, H b = some u → b ≠ c ∧ b ≠ P2 := fun b u e => ⟨ne_of_none e nC, ne_of_none e nQ⟩
  refine I.step (g' := s.gens) (d' := s.drawn) (ch := []) (fun b hb => absurd hb (by simp)) (fun b o _ _ _ e n => k b o (nN b n) e) (fun b o _ _ _ e n => ⟨o.slots, k b o (nN b n) e⟩)
    (fun b o _ e n => by rw [at_ b (nN b n) (lt' b o e).1 (lt' b o e).2]; exact n) (fun b o _ e => ?_) (fun b xs e => by rw [at_ b (nP b _ e (fun q z => by cases z)) (sm b _ e).1 (sm b _ e).2]; exact e) (fun b o u e => by rw [at_ b (nP b _ e (fun q z => by cases z)) (sm b _ e).1 (sm b _ e).2]; exact e) (fun b qs e => ?_) (fun m hn => ?_) (fun b u e => ?_) I.bare
  · by_cases hb : b = P
    · rw [hb]
      exact ⟨_, hm⟩
    · exact ⟨o, k b o hb e⟩
  · by_cases hb : b = P
    · rw [hb, hP] at e
      cases e
      rw [hb, atP]
      exact ⟨more, rfl⟩
    · rw [at_ b hb (sm b _ e).1 (sm b _ e).2, e]
      exact ⟨#[], by simp⟩
  · obtain ⟨ob, es, ep, ho, r⟩ := hn
    exact ⟨ob, es, ep, k _ ob (nN _ I.free) ho, r⟩
  · by_cases hb2 : b = P2
    · rw [hb2, upd_same] at e
      cases e
      rw [hb2]
      exact hq
    · by_cases hb : b = c
      · rw [hb, upd_ne ncp, upd_same] at e
        cases e
        rw [hb]
        refine ⟨ho, ?_, fun h1 h2 a st => codeHd_stay a st⟩
        obtain ⟨o, _, _, _, _, _, _, _, _, e, _⟩ := ho
        exact ⟨o, e⟩
      · by_cases hbP : b = P
        · rw [hbP, atP] at e
          cases e
          rw [hbP]
          exact hm
        · rw [at_ b hbP hb hb2] at e
          refine (I.hok b u e).stay (fun d v hd q => k d v ?_ q) (fun d q => by rw [at_ d (nP d _ q (fun q z => by cases z)) (sm d _ q).1 (sm d _ q).2]; exact q) fun d xs q => by rw [at_ d (nP d _ q (fun q z => by cases z)) (sm d _ q).1 (sm d _ q).2]; exact q
          rcases hd with z | z
          · rw [z]
            exact hbP
          · exact nP d _ z (fun q z => by cases z)
end
/-- the making of a generator expression's code object, as it is read -/
abbrev TC := L2.St → Hp → (Value → Hp → Prop) → Prop
structure PC (X : Cx) (gpos : Pos) (scope : Scope) (tc : TC) : Prop where
  run : ∀ (pins : List (Addr × Obj)) (s : Shared) (σ : L2.St) (H : Hp) (Q : Value → Hp → Prop) (E : Value → Shared → Prop), Inv X pins σ H s → tc σ H Q →
    wpAny (model X.prog X.w) X.A (genexprCode X.env gpos (X.env.qual ++ "<genexpr>") scope) (fun code s' => ∃ H', Inv X pins σ H' s' ∧ s.heap.objs.size ≤ s'.heap.objs.size ∧ Q code H') E s
/-- of a def's own code object -/
def tCo (Ms : Mq) (Xs : List Addr) (P : Addr) : TC := fun _ H Q => TQ Ms Xs H ∧ P ∈ Ms ∧ ∀ (H2 : Hp) (c' P' : Addr), NoTab H H2 → TQ Ms Xs H2 → P' ∉ Xs → H2 c' = some (CodeG c' P') → GxR.TabG H2 P' → Q (.ref c') H2
theorem pc_own {X : Cx} {Ms : Mq} {Xs : List Addr} {c P : Addr} {gpos : Pos} {scope : Scope} (TB : GxR.TabB X.base X.mg c P) (hcode : X.env.code = .ref c) : PC X gpos scope (tCo Ms Xs P) := by
  refine ⟨fun pins s σ H Q E I h => ?_⟩
  obtain ⟨tq, hPm, q⟩ := h
  obtain ⟨⟨ps, hP, ok, kn⟩, hPx⟩ := tq.gx P hPm
  have hP' : s.heap.get? P = some { cls := .none, data := .fields ps } := I.hok P _ hP
  have C := TB.code.keeps I.bk
  cases found : codeAmong gpos ps.toList with
  | some old =>
    obtain ⟨c', P', rfl, e2, e3, e4⟩ := kn gpos _ found
    exact wpAny_genexprCode_hit hcode (C.code hP' ok) found ⟨H, I, Nat.le_refl _, q H c' P' (NoTab.refl _) tq e3 e2 e4⟩
  | none =>
    refine wpAny_genexprCodeX hcode (C.code hP' ok) (C.tab hP') found fun c' h' tk ext le lt isC _ tab ⟨P', le2, isC2, tab2⟩ => ?_
    obtain ⟨_, _, _, _, _, _, _, _, _, _, _, _, _, _, _, _, _, _, _, okT, _⟩ := isC
    have hd2 := PySem.W.CodeHd.of isC2 tab2
    have ncp : c' ≠ P' := by
      obtain ⟨_, _, _, _, _, _, _, _, _, _, _, _, _, _, _, _, _, _, hne⟩ := hd2
      exact hne
    have J := inv_code (t' := tk) I hP (fun b o hb e => ext b o hb e) tab.2 le le2 ncp hd2 tab2.2
    have nC : H c' = none := I.hok.fresh le
    have nQ : H P' = none := I.hok.fresh le2
    have nPc : P ≠ c' := ne_of_none hP nC
    have nPq : P ≠ P' := ne_of_none hP nQ
    have nX : P' ∉ Xs := fun z => by
      obtain ⟨ps0, e⟩ := tq.all P' z
      rw [nQ] at e
      cases e
    have eL : (ps ++ #[rawInt gpos.line, rawInt gpos.col, .ref c']).toList = ps.toList ++ [rawInt gpos.line, rawInt gpos.col, .ref c'] := by simp
    have kp : But P H (upd (upd (upd H P (.tbl (ps ++ #[rawInt gpos.line, rawInt gpos.col, .ref c']))) c' (CodeG c' P')) P' (.tbl #[])) := fun b o hb e => by
      rw [upd_ne (ne_of_none e nQ), upd_ne (ne_of_none e nC), upd_ne hb]
      exact e
    have eC : upd (upd (upd H P (.tbl (ps ++ #[rawInt gpos.line, rawInt gpos.col, .ref c']))) c' (CodeG c' P')) P' (.tbl #[]) c' = some (CodeG c' P') := by rw [upd_ne ncp, upd_same]
    have tG : GxR.TabG (upd (upd (upd H P (.tbl (ps ++ #[rawInt gpos.line, rawInt gpos.col, .ref c']))) c' (CodeG c' P')) P' (.tbl #[])) P' := ⟨#[], upd_same, True.intro⟩
    have eP : upd (upd (upd H P (.tbl (ps ++ #[rawInt gpos.line, rawInt gpos.col, .ref c']))) c' (CodeG c' P')) P' (.tbl #[]) P = some (.tbl (ps ++ #[rawInt gpos.line, rawInt gpos.col, .ref c'])) := by rw [upd_ne nPq, upd_ne nPc, upd_same]
    have sub : ∀ c0 P0, H c0 = some (CodeG c0 P0) → P0 ∉ Xs → GxR.TabG H P0 → GxR.TabG (upd (upd (upd H P (.tbl (ps ++ #[rawInt gpos.line, rawInt gpos.col, .ref c']))) c' (CodeG c' P')) P' (.tbl #[])) P0 := fun c0 P0 _ e3 ⟨q0, f1, f2⟩ => ⟨q0, kp _ _ (fun z => e3 (z ▸ hPx)) f1, f2⟩
    refine ⟨_, J, Nat.le_trans le (Nat.le_of_lt lt), q _ c' P' (kp.noTab hP eP) ⟨fun x hx => ?_, fun m hm => ?_, fun l hl => let ⟨a, b, c⟩ := tq.lam l hl; ⟨a, b, tabS_keep c (fun _ => kp _ _ (fun z => b (by rw [z]; exact hPm))) fun b c q e => kp _ _ (ne_of e hP (codeO_ne ps)) e⟩⟩ nX eC tG⟩
    · by_cases e : x = P
      · exact ⟨_, by rw [e]; exact eP⟩
      · obtain ⟨ps0, e0⟩ := tq.all x hx
        exact ⟨ps0, kp _ _ e e0⟩
    · by_cases e : m = P
      · subst e
        refine ⟨⟨_, eP, okT, fun pos cv hcv => ?_⟩, hPx⟩
        rw [eL] at hcv
        rcases LamX.among_app _ ok hcv with z | z
        · obtain ⟨c0, P0, e1, e2, e3, e4⟩ := kn pos cv z
          exact ⟨c0, P0, e1, kp _ _ (ne_of e2 hP (codeG_ne ps)) e2, e3, sub c0 P0 e2 e3 e4⟩
        · exact ⟨c', P', z, eC, nX, tG⟩
      · obtain ⟨⟨ps0, a, b, c⟩, hx⟩ := tq.gx m hm
        refine ⟨⟨ps0, kp _ _ e a, b, fun pos cv hc => ?_⟩, hx⟩
        obtain ⟨c0, P0, e1, e2, e3, e4⟩ := c pos cv hc
        exact ⟨c0, P0, e1, kp _ _ (ne_of e2 hP (codeG_ne ps)) e2, e3, sub c0 P0 e2 e3 e4⟩
/-- of the code object of the generator expression around -/
def tCj (Ms : Mq) (Xs : List Addr) (code : Value) : TC := fun _ H Q => ∃ c P, code = .ref c ∧ H c = some (CodeG c P) ∧ P ∉ Xs ∧ GxR.TabG H P ∧ TQ Ms Xs H ∧ ∀ (H2 : Hp) (code' : Value), NoTab H H2 → TQ Ms Xs H2 → GxR.TabG H2 P → Q code' H2
theorem pc_in {X : Cx} {Ms : Mq} {Xs : List Addr} {code : Value} {gpos : Pos} {scope : Scope} (hcode : X.env.code = code) : PC X gpos scope (tCj Ms Xs code) := by
  refine ⟨fun pins s σ H Q E I h => ?_⟩
  obtain ⟨c, P, ec, hC, nX, ⟨ps, hP, ok⟩, tq, q⟩ := h
  rw [ec] at hcode
  have hP' : s.heap.get? P = some { cls := .none, data := .fields ps } := I.hok P _ hP
  have C : PySem.W.CodeHd s.heap c P := (I.hok c _ hC).1
  cases found : codeAmong gpos ps.toList with
  | some old => exact wpAny_genexprCode_hit hcode (C.code hP' ok) found ⟨H, I, Nat.le_refl _, q H _ (NoTab.refl _) tq ⟨ps, hP, ok⟩⟩
  | none =>
    refine wpAny_genexprCodeX hcode (C.code hP' ok) (C.tab hP') found fun c' h' tk ext le lt isC _ tab _ => ?_
    obtain ⟨_, _, _, _, _, _, _, _, _, _, _, _, _, _, _, _, _, _, _, okT, _⟩ := isC
    have J := GxR.inv_tab (more := #[rawInt gpos.line, rawInt gpos.col, .ref c']) (g' := s.gens) (d' := s.drawn) (t' := tk) I hP (fun b o hb e => ext b o hb e) tab.2 I.bare
    have kp : But P H (upd H P (.tbl (ps ++ #[rawInt gpos.line, rawInt gpos.col, .ref c']))) := fun b o hb e => by rw [upd_ne hb]; exact e
    have t2 : GxR.TabG (upd H P (.tbl (ps ++ #[rawInt gpos.line, rawInt gpos.col, .ref c']))) P := ⟨_, upd_same, okT⟩
    exact ⟨_, J, Nat.le_trans le (Nat.le_of_lt lt), q _ _ (kp.noTab hP upd_same) (tq.but nX ⟨ps, hP, ok⟩ t2 kp) t2⟩
end GX

namespace GX
open PySem PySem.Spec PyProof.Rows L2 GenW
/-- the context of a generator expression's frame, which runs in the around B -/
abbrev gcx (X : Cx) (B : Around) (s : Shared) (H : Hp) (scope : Scope) (genv : Env) (fp : List Addr) : Cx :=
  { X with A := B, s_0 := s, H_0 := H, env := genv, outer := X.stack, stack := genv :: X.stack, ex := fp, fn := fun x => scope.names.lookup x == some .cell, calm := true, pn := [], xe := fun _ _ => False }
/-- the names of a generator expression: its own (with their places in N), or captured -/
structure GOk (N : List Str) (sc scope : Scope) (own : List (Str × Nat)) : Prop where
  blk : BlkOk N sc scope own
  dot : scope.names.lookup (".0" : Str) = some .local
  co : scope.isCoroutine = false
def gokB (N : List Str) (sc scope : Scope) (own : List (Str × Nat)) : Bool := blkC N sc scope own && decide (scope.names.lookup (".0" : Str) = some .local) && !scope.isCoroutine
theorem gok_by {N : List Str} {sc scope : Scope} {own : List (Str × Nat)} (h : gokB N sc scope own = true) : GOk N sc scope own := by
  unfold gokB at h
  simp only [Bool.and_eq_true, Bool.not_eq_true', decide_eq_true_eq] at h
  exact ⟨blkOk_by h.1.1, h.1.2, h.2⟩
abbrev frameH (h : Heap) (names : List (Str × NameKind)) : Heap := pushCells (h.push { cls := .type "frame", data := .dict #[] }) names
theorem newGenEnv {M : Model} {A : Around} {E : Value → Shared → Prop} {s : Shared} {scope : Scope} {globals : Addr} {cl : List (Str × Addr)} {qual : Str} {code it : Value} {bi : Addr} {Q : Env → Shared → Prop} (hk : scope.kind = .function) (h0 : scope.names.lookup (".0" : Str) = some .local)
    (h : ∀ h', h'.Ns s.heap.objs.size (fun y => if y = (".0" : Str) then some it else none) → Heap.SameBut s.heap.objs.size (frameH s.heap scope.names) h' →
      Q { scope, locals := s.heap.objs.size, globals, cells := cellsFrom (s.heap.objs.size + 1) scope.names cl, qual, func := none, code, frame := some s.heap.objs.size, builtins := bi } { s with heap := h', toks := s.toks + 1 }) :
    wpAny M A (newFunctionEnv scope globals cl [(".0", it)] qual none code none bi) Q E s := by
  simp only [newFunctionEnv, Option.isSome_none, Bool.false_eq_true, if_false]
  refine wpAny_bind (wpAny_alloc ?_)
  refine wpAny_bind (wpAny_layCells _ (fun name kind cells => by cases hkc : kind == NameKind.cell <;> simp [hkc]) _ _ _ _ ?_)
  rw [show ({ s with heap := s.heap.push { cls := .type "frame", data := .dict #[] } } : Shared).heap.objs.size = s.heap.objs.size + 1 from Heap.size_push ..]
  rw [List.forIn_cons]
  refine wpAny_bind (wpAny_bind (wpAny_bind (wpAny_storeName_local (m := fun _ => none) h0 ((Heap.Ns.new s.heap (.type "frame")).keeps (pushCells_keeps _ _)) (fun h' hn' hs' => ?_) (by
    show (scope.kind == .class || (scope.kind == .module && _)) = false
    rw [hk]; rfl))))
  refine wpAny_pure ?_
  dsimp only
  rw [List.forIn_nil]
  exact wpAny_pure (wpAny_pure (h h' hn' hs'))
abbrev gEnv (X : Cx) (scope : Scope) (s : Shared) (code : Value) : Env := genEnv scope (cellsFrom (s.heap.objs.size + 1) scope.names (cloFrom X.env.cells scope.names [])) s.heap.objs.size code builtinsNs X.env
section
variable {X : Cx} {pins : List (Addr × Obj)} {σ : L2.St} {H : Hp} {s : Shared}
/-- what the around of the frame is to be -/
structure BOk (X : Cx) (B : Around) (genv : Env) : Prop where
  hd : B.handled = none
  fr : B.frames = some (genv :: X.stack)
theorem gx_start {B : Around} {scope : Scope} {own : List (Str × Nat)} {fp : List Addr} {code it : Value} {h' : Heap} {t' : Nat} (I : Inv X pins σ H s) (ok : GOk X.N X.env.scope scope own) (hN : X.N.Nodup) (hfp : ∀ b ∈ fp, FpOk X pins H b ∧ b < s.heap.objs.size)
    (hB : BOk X B (gEnv X scope s code)) (hn' : h'.Ns s.heap.objs.size (fun y => if y = (".0" : Str) then some it else none)) (hs' : Heap.SameBut s.heap.objs.size (frameH s.heap scope.names) h') :
    Inv (gcx X B s H scope (gEnv X scope s code) fp) [] (wipe σ (own.map (·.2))) H { s with heap := h', toks := t' } := by
  obtain ⟨ok, hdot, hco⟩ := ok
  have hfree : ∀ y ∈ scope.names, y.2 = .free → ∃ c, X.env.cells.lookup y.1 = some c := fun y hy e => by
    rcases ok.free y hy e with k | k
    · exact I.ok.has _ (.inl k)
    · exact I.ok.has _ (.inr k)
  generalize hcenv : gEnv X scope s code = cenv at hB ⊢
  have kp0 : ∀ b o, s.heap.get? b = some o → (frameH s.heap scope.names).get? b = some o := fun b o e => pushCells_keeps _ _ _ _ (Heap.get?_push_of_some _ e)
  have kp : ∀ b o, s.heap.get? b = some o → h'.get? b = some o := fun b o e => hs'.extBut b o (Nat.ne_of_lt (Heap.lt_size e)) (kp0 b o e)
  have hL : cenv.locals = s.heap.objs.size := by rw [← hcenv]; rfl
  have hcl : cenv.cells = cellsFrom (s.heap.objs.size + 1) scope.names (cloFrom X.env.cells scope.names []) := by rw [← hcenv]; rfl
  have hsc : cenv.scope = scope := by rw [← hcenv]; rfl
  rw [← Heap.size_push s.heap { cls := .type "frame", data := .dict #[] }] at hcl
  have cm : ∀ {y c}, (y, c) ∈ cloFrom X.env.cells scope.names [] → X.env.cells.lookup y = some c ∧ c < s.heap.objs.size := fun {y c} hm => by
    rcases cloFrom_mem hm with hm | ⟨h1, rfl⟩
    · cases hm
    · obtain ⟨c, hc⟩ := hfree _ h1 rfl
      rw [hc]
      obtain ⟨w, z⟩ := I.cell _ _ hc
      exact ⟨rfl, z.lt⟩
  have mem : ∀ {y c}, cenv.cells.lookup y = some c → (X.env.cells.lookup y = some c ∧ c < s.heap.objs.size) ∨ (s.heap.objs.size + 1 ≤ c ∧ CellAt h' c none) := fun {y c} e => by
    rw [hcl] at e
    rcases cells_mem (PySem.mem_of_lookup e) with hm | ⟨_, h2, h3⟩
    · exact .inl (cm hm)
    · rw [Heap.size_push] at h2
      exact .inr ⟨h2, h3.sameBut hs' (Nat.ne_of_gt h2)⟩
  have look : ∀ {y}, scope.names.lookup y = some .free → ∃ c, cenv.cells.lookup y = some c ∧ X.env.cells.lookup y = some c := fun {y} hl => by
    have hy : (y, NameKind.free) ∈ scope.names := PySem.mem_of_lookup hl
    obtain ⟨c', e'⟩ := mem_lookup (cells_acc (names := scope.names) (n := (s.heap.push { cls := .type "frame", data := .dict #[] }).objs.size) (cloFrom_has (cells := X.env.cells) (acc := []) hy))
    rw [← hcl] at e'
    refine ⟨c', e', ?_⟩
    rw [hcl] at e'
    rcases cells_mem (PySem.mem_of_lookup e') with hm | ⟨h1, _, _⟩
    · exact (cm hm).1
    · have := ok.uniq _ h1
      rw [hl] at this; cases this
  have okB : (gcx X B s H scope cenv fp).Ok := by
    refine ⟨I.ok.mod, by show cenv.scope.kind = _; rw [hsc]; exact ok.kind, by show cenv.globals = _; rw [← hcenv]; exact I.ok.glob, by show cenv.builtins = _; rw [← hcenv]; rfl, by show s.heap.objs.size ≤ cenv.locals; rw [hL]; exact Nat.le_refl _,
      fun y z c e1 e2 => ?_, fun y hy => ?_, fun y c z e => ?_, fun _ => hB.hd, hB.fr, .inr ⟨rfl, by show cenv.frame = _; rw [← hcenv]; rfl⟩, fun b hb => ⟨?_, fun y c e z => ?_⟩, I.bs, Nat.le_trans I.ok.bsz I.sz, fun b o e hb => ?_, fun b hb z => ?_, I.stack, I.stkFree⟩
    · have e1 : cenv.cells.lookup y = some c := e1
      have e2 : cenv.cells.lookup z = some c := e2
      rw [hcl] at e1 e2
      refine cells_inj (fun p hp => ?_) (fun y z c a b => I.ok.inj y z c (cm a).1 (cm b).1) (PySem.mem_of_lookup e1) (PySem.mem_of_lookup e2)
      rw [Heap.size_push]
      exact Nat.lt_succ_of_lt (cm (y := p.1) (c := p.2) hp).2
    · show ∃ c, cenv.cells.lookup y = some c
      have key : ∀ k, cenv.kindOf y = some k → (k = .cell ∨ k = .free) → ∃ c, cenv.cells.lookup y = some c := fun k hk hk' => by
        have hk : scope.names.lookup y = some k := by
          unfold Env.kindOf at hk
          rw [hsc] at hk
          exact hk
        rcases hk' with rfl | rfl
        · obtain ⟨c, hm⟩ := cells_has (n := (s.heap.push { cls := .type "frame", data := .dict #[] }).objs.size) (acc := cloFrom X.env.cells scope.names []) (PySem.mem_of_lookup hk)
          obtain ⟨c', e'⟩ := mem_lookup hm
          exact ⟨c', by rw [hcl]; exact e'⟩
        · obtain ⟨c, h1, _⟩ := look hk
          exact ⟨c, h1⟩
      rcases hy with hy | hy
      · exact key _ hy (.inl rfl)
      · exact key _ hy (.inr rfl)
    · have z : (scope.names.lookup y == some NameKind.cell) = true := z
      have z : scope.names.lookup y = some .cell := by simpa using z
      have e : cenv.cells.lookup y = some c := e
      rw [hcl] at e
      rcases cells_mem (PySem.mem_of_lookup e) with hm | ⟨_, h2, _⟩
      · rcases cloFrom_mem hm with hm | ⟨h1, _⟩
        · cases hm
        · have q := ok.uniq _ h1
          rw [z] at q; cases q
      · rw [Heap.size_push] at h2
        exact Nat.le_of_succ_le h2
    · show b ≠ cenv.locals
      rw [hL]; exact Nat.ne_of_lt (hfp b hb).2
    · have e : cenv.cells.lookup y = some c := e
      rcases mem e with ⟨h1, _⟩ | ⟨h1, _⟩
      · exact (hfp b hb).1.2.2.2.2.1 y c h1 z
      · have h2 : s.heap.objs.size + 1 ≤ b := by rw [← z]; exact h1
        exact absurd (Nat.lt_of_lt_of_le (hfp b hb).2 (Nat.le_of_succ_le h2)) (Nat.lt_irrefl _)
    · rcases (hfp b hb).1.2.2.2.1 with z | z
      · exact I.ok.noex b o e z
      · exact absurd (Nat.lt_of_lt_of_le (Heap.lt_size e) (Nat.le_trans I.ok.bsz z)) (Nat.lt_irrefl _)
    · rcases List.mem_cons.mp (I.stkSub b z) with z | z
      · exact (hfp b hb).1.2.1 z
      · exact (hfp b hb).1.2.2.1 z
  refine ⟨okB, rfl, I.bare, Un.kept kp, ⟨fun y => if y = (".0" : Str) then some it else none, ?_, fun i y av e1 e2 e3 => ?_⟩, fun y c e => ?_, ?_, fun y c e => ?_, fun p hp => ?_, I.hok.kept kp, by rw [wipe_length]; exact I.len⟩
  · show Heap.Ns _ cenv.locals _
    rw [hL]
    exact hn'
  · obtain ⟨e2, hne⟩ := wipe_some e2
    have hfr : scope.names.lookup y = some .free := by
      have e3 : Vis cenv.scope y := e3
      rw [hsc] at e3
      have no : ∀ k, scope.names.lookup y = some k → ¬ (k = .local ∨ k = .cell) := fun k e hh => by
        rcases ok.own _ (PySem.mem_of_lookup e) hh with e' | e'
        · obtain ⟨p, hp, hpy⟩ := List.mem_map.mp e'
          have e3 := ok.ix p hp
          have : p.1 = y := hpy
          rw [this] at e3
          exact hne (List.mem_map.mpr ⟨p, hp, nodup_ix hN e3 e1⟩)
        · exact e' (List.mem_of_getElem? e1)
      rcases e3 with e3 | e3 | e3
      · exact absurd (.inl rfl) (no _ e3)
      · exact absurd (.inr rfl) (no _ e3)
      · exact e3
    have hkf : cenv.kindOf y = some .free := by
      unfold Env.kindOf
      rw [hsc]
      exact hfr
    obtain ⟨m, hn, hl⟩ := I.loc
    have hvis : Vis X.env.scope y := (ok.free _ (PySem.mem_of_lookup hfr) rfl).elim (fun k => .inr (.inl k)) (fun k => .inr (.inr k))
    obtain ⟨w, r, q⟩ := hl i y av e1 e2 hvis
    refine ⟨w, r, .inr ⟨.inr hkf, ?_⟩⟩
    obtain ⟨c, h1, h2⟩ := look hfr
    rcases q with ⟨k, _⟩ | ⟨_, c', e', z⟩
    · have k : X.env.scope.names.lookup y = some .local := k
      rcases ok.free _ (PySem.mem_of_lookup hfr) rfl with k' | k' <;> rw [show X.env.scope.names.lookup y = _ from k'] at k <;> cases k
    · rw [h2] at e'; cases e'
      exact ⟨c, h1, z.keeps kp⟩
  · have e : cenv.cells.lookup y = some c := e
    rcases mem e with ⟨h1, _⟩ | ⟨_, z⟩
    · obtain ⟨w, z⟩ := I.cell y c h1
      exact ⟨w, z.keeps kp⟩
    · exact ⟨_, z⟩
  · show H cenv.locals = none
    rw [hL]; exact I.hok.fresh (Nat.le_refl _)
  · have e : cenv.cells.lookup y = some c := e
    rcases mem e with ⟨h1, _⟩ | ⟨h1, _⟩
    · exact I.freeC y c h1
    · exact I.hok.fresh (Nat.le_of_succ_le h1)
  · exact absurd (show p ∈ ([] : List (Addr × Obj)) ++ [] from hp) (by simp)
/-- the table of generators and the heap have grown -/
theorem inv_gens {g' : Array GenState} {t' : Nat} {d' : Drawn} {h' : Heap} (I : Inv X pins σ H s) (k : ∀ b o, s.heap.get? b = some o → h'.get? b = some o) (hg : AllBare g') : Inv X pins σ H { s with heap := h', gens := g', drawn := d', toks := t' } :=
  I.step (ch := []) (fun b hb => absurd hb (by simp)) (fun b o _ _ _ e _ => k b o e) (fun b o _ _ _ e _ => ⟨o.slots, k b o e⟩) (fun _ _ _ _ n => n) (fun b o _ e => ⟨o, k b o e⟩) (fun _ _ e => e) (fun _ _ _ e => e) (fun b ps e => ⟨#[], by rw [e]; simp⟩)
    (fun m hn => hn.keeps k) (I.hok.kept k) hg
theorem over_gen {A : Around} {elt tg iter : Expr} {ifs : List Expr} {scope : Scope} {pos : Pos} {it acc : Value} {env : Env} : A.over (.compLoop (.GeneratorExp elt [⟨tg, iter, ifs, 0⟩] scope pos) 0 it acc env) [] = A.deeper env := by
  first
    | rfl
    | (obtain ⟨hd, d, fr, gs, u⟩ := A; simp [Around.over, Around.deeper, marksOver, frameCount, unitsOf, envsOf, guardsOf, pushEnvs, pushGuards, Code.envs, Code.env?, Code.isFrame, Code.guards, Code.isGuard, Code.weight, Code.frames, Code.isCreation, Code.isCaller, Code.cUnits])
theorem over_gen0 {A : Around} {elt tg iter : Expr} {ifs : List Expr} {scope : Scope} {pos : Pos} {it acc : Value} {env : Env} : A.over (.compStart (.GeneratorExp elt [⟨tg, iter, ifs, 0⟩] scope pos) 0 it acc env) [] = A.deeper env := by
  first
    | rfl
    | (obtain ⟨hd, d, fr, gs, u⟩ := A; simp [Around.over, Around.deeper, marksOver, frameCount, unitsOf, envsOf, guardsOf, pushEnvs, pushGuards, Code.envs, Code.env?, Code.isFrame, Code.guards, Code.isGuard, Code.weight, Code.frames, Code.isCreation, Code.isCaller, Code.cUnits])
end
end GX

namespace GX
open PySem PySem.Spec PyProof.Rows L2 GenW
/-- what a consumer of the items does with one: N is what is wanted where it goes on -/
abbrev Stps (α : Type) := α → V → Hp → (α → Hp → Prop) → Prop
/-- while the generator sleeps: the objects at Ss may be others, all else is kept -/
structure Slp (Ss : List Addr) (s s' : Shared) : Prop where
  os : s'.os = s.os
  bare : AllBare s'.gens
  keep : ∀ b o, b ∉ Ss → s.heap.get? b = some o → s'.heap.get? b = some o
  own : ∀ b ∈ Ss, ∃ o, s'.heap.get? b = some o ∧ ∀ v, o.data ≠ .cell v
/-- the consumer's objects are none of the generator's -/
structure SsOk (Xg : Cx) (gp : Addr × Obj) (fp Ss : List Addr) : Prop where
  all : ∀ b ∈ Ss, Xg.s_0.heap.objs.size ≤ b ∧ b ≠ Xg.env.locals ∧ (∀ x c, Xg.env.cells.lookup x = some c → c ≠ b) ∧ b ∉ fp ∧ b ≠ gp.1
  pn : Xg.pn = []
/-- the generator's state at turn i -/
def GSt (Xg : Cx) (gp : Addr × Obj) (fp : List Addr) (tn : Nat → Heap → Prop) (Ss : List Addr) (σ0 : L2.St) (i : Nat) (H : Hp) (s : Shared) : Prop :=
  ∃ cp : List (Addr × Obj), cp.map (·.1) = Ss ∧ Inv Xg (gp :: cp) σ0 H s ∧ tn i s.heap ∧ ∀ b ∈ fp, H b = none
section
variable {Xg : Cx} {gp : Addr × Obj} {fp : List Addr} {tn : Nat → Heap → Prop} {Ss : List Addr} {σ0 : L2.St} {i : Nat} {H : Hp} {s s' : Shared}
theorem pins_exist : ∀ (Ss : List Addr) (h : Heap), (∀ b ∈ Ss, ∃ o, h.get? b = some o ∧ ∀ v, o.data ≠ .cell v) → ∃ cp : List (Addr × Obj), cp.map (·.1) = Ss ∧ ∀ p ∈ cp, h.get? p.1 = some p.2 ∧ ∀ v, p.2.data ≠ .cell v
  | [], _, _ => ⟨[], rfl, fun _ h => nomatch h⟩
  | b :: r, h, k => by
    obtain ⟨o, e, d⟩ := k b (List.mem_cons_self ..)
    obtain ⟨cp, e1, e2⟩ := pins_exist r h fun x hx => k x (List.mem_cons_of_mem _ hx)
    refine ⟨(b, o) :: cp, by rw [List.map_cons, e1], fun p hp => ?_⟩
    rcases List.mem_cons.mp hp with z | z
    · rw [z]; exact ⟨e, d⟩
    · exact e2 p z
theorem GSt.woken {P : Program} {w : World} {K : PySem.W.Frag} {tg : Expr} {J : It} {it : Addr} (T : Turn P w K tg J fp it tn) (hS : SsOk Xg gp fp Ss) (h : GSt Xg gp fp tn Ss σ0 i H s) (z : Slp Ss s s') : GSt Xg gp fp tn Ss σ0 i H s' := by
  obtain ⟨cp, ecp, I, st, nf⟩ := h
  have free : ∀ b ∈ Ss, H b = none ∧ b ∉ Xg.fs := fun b hb => by
    rw [← ecp] at hb
    obtain ⟨p, hp, rfl⟩ := List.mem_map.mp hb
    obtain ⟨_, h2, _, h4, _⟩ := I.pin p (List.mem_append_right _ (List.mem_cons_of_mem _ hp))
    exact ⟨h2, h4⟩
  obtain ⟨z1, z2, z3, z4⟩ := z
  obtain ⟨hh, g, d, t, o⟩ := s'
  have ho : o = s.os := z1
  subst ho
  have I0 : Inv Xg [gp] σ0 H s := I.pins_of fun p hp => I.pin p (List.mem_append_right _ (by rw [List.mem_singleton.mp hp]; exact List.mem_cons_self ..))
  have nt : ∀ b u, H b = some u → b ∉ Ss := fun b u q hb => by rw [(free b hb).1] at q; cases q
  have J : Inv Xg [gp] σ0 H { s with heap := hh, gens := g, drawn := d, toks := t } := by
    refine I0.step (g' := g) (t' := t) (d' := d) (ch := Ss) (fun b hb => ?_) (fun b ob _ _ hc q _ => z3 b ob hc q) (fun b ob _ _ hc q _ => ⟨ob.slots, z3 b ob hc q⟩) (fun _ _ _ _ n => n) (fun b ob hc q => ⟨ob, z3 b ob hc q⟩)
      (fun _ _ q => q) (fun _ _ _ q => q) (fun b ps q => ⟨#[], by rw [q]; simp⟩) (fun m hm => ?_) (fun b u q => ?_) z2
    · obtain ⟨a1, a2, a3, a4, a5⟩ := hS.all b hb
      refine ⟨.inr a1, a2, a3, fun p hp => ?_⟩
      rw [hS.pn] at hp
      rw [List.mem_singleton.mp hp]
      exact Ne.symm a5
    · obtain ⟨ob, es, ep, ho, r⟩ := hm
      exact ⟨ob, es, ep, z3 _ ob (fun q => (hS.all _ q).2.1 rfl) ho, r⟩
    · refine (I0.hok b u q).stay (fun c v hc y => z3 c v ?_ y) (fun _ y => y) fun _ _ y => y
      rcases hc with y | y
      · rw [y]; exact nt b u q
      · exact nt c _ y
  obtain ⟨cp2, e2, k2⟩ := pins_exist Ss hh z4
  refine ⟨cp2, e2, J.pins_of fun p hp => ?_, T.keep _ _ _ st fun b hb ob e => z3 b ob (fun q => (hS.all b q).2.2.2.1 hb) e, nf⟩
  rcases List.mem_cons.mp hp with hp | hp
  · rw [hp]
    exact J.pin gp (List.mem_append_right _ (List.mem_cons_self ..))
  · have hm : p.1 ∈ Ss := by rw [← e2]; exact List.mem_map_of_mem hp
    exact ⟨(k2 p hp).1, (free _ hm).1, (hS.all _ hm).2.1, (free _ hm).2, (k2 p hp).2⟩
end
section
variable {α : Type} (CRel : α → Heap → Prop) (Stp : Stps α) (Fin : α → Hp → Prop) (Xg : Cx) (gp : Addr × Obj) (fp : List Addr) (tn : Nat → Heap → Prop) (Ss : List Addr) (σ0 : L2.St)
def YG : Protocol := fun _ s₀ v s kap => ∃ (i : Nat) (x : V) (acc : α) (H : Hp) (Nx : α → Hp → Prop), RelV x v ∧ GSt Xg gp fp tn Ss σ0 i H s ∧ CRel acc s₀.heap ∧ (∀ b ∈ Ss, s.heap.get? b = s₀.heap.get? b) ∧ Stp acc x H Nx ∧
  ∀ s' acc', Slp Ss s s' → CRel acc' s'.heap → Nx acc' H → kap (.send .none) s'
def RGp : Shared → Shared → Prop := fun s₀ s => ∃ (acc : α) (H : Hp) (cp : List (Addr × Obj)), cp.map (·.1) = Ss ∧ Inv Xg (gp :: cp) σ0 H s ∧ CRel acc s₀.heap ∧ (∀ b ∈ Ss, s.heap.get? b = s₀.heap.get? b) ∧ Fin acc H
def RG : GenEnd := fun _ s₀ r s => r = .ok .next ∧ RGp CRel Fin Xg gp Ss σ0 s₀ s
/-- the reading of the turns -/
def TurnsR (J : It) (g : TG) (tt : TT) (te : TE) (vs : List Nat) (σ : L2.St) (W : Nat → Nat → α → Hp → Prop) : Prop := ∀ i m a H, W i m a H →
  (J.stop i H ∧ Fin a H) ∨ (J.go i H ∧ ∃ Nx : α → Hp → Prop, (∀ a' H', Nx a' H' → ∃ m', m' < m ∧ W (i + 1) m' a' H') ∧ ∀ x H', J.yld i H x H' → g x (wipe σ vs) H' fun σ2 H2 => wipe σ2 vs = wipe σ vs ∧ tt σ2 H2 fun b H3 =>
    if b = true then te σ2 H3 fun y H4 => Stp a y H4 Nx else Nx a H3)
end
section
variable {α : Type} {CRel : α → Heap → Prop} {Stp : Stps α} {Fin : α → Hp → Prop} {Xg : Cx} {gp : Addr × Obj} {fp : List Addr} {tn : Nat → Heap → Prop} {Ss : List Addr} {σ : L2.St}
theorem gx_loop {B : Around} {tg elt iter : Expr} {ifs : List Expr} {scope : Scope} {gpos : Pos} {it : Addr} {J : It} {g : TG} {tt : TT} {te : TE} {vs : List Nat} {W : Nat → Nat → α → Hp → Prop} (hov : B.deeper Xg.env = Xg.A) (hc : Xg.calm = true) (hco : Xg.env.scope.isCoroutine = false) (hxe : Xg.xe = fun _ _ => False)
    (T : Turn Xg.prog Xg.w Xg.K tg J fp it tn) (hfp : ∀ b ∈ fp, ∀ H', H' b = none → FpOk Xg [] H' b) (hS : SsOk Xg gp fp Ss) (hgf : gp.1 ∉ fp) (hg : PG Xg tg g) (ht : PTs Xg ifs tt) (he : PE Xg elt te) (turn : TurnsR Stp Fin J g tt te vs σ W) :
    ∀ (m n i : Nat) (acc : α) (H : Hp) (s₀ s : Shared), m < n → W i m acc H → CRel acc s₀.heap → (∀ b ∈ Ss, s.heap.get? b = s₀.heap.get? b) → GSt Xg gp fp tn Ss (wipe σ vs) i H s →
      Seg (model Xg.prog Xg.w) B (RG CRel Fin Xg gp Ss (wipe σ vs)) (YG CRel Stp Xg gp fp tn Ss (wipe σ vs)) n s₀ (.compLoop (.GeneratorExp elt [⟨tg, iter, ifs, 0⟩] scope gpos) 0 (.ref it) .none Xg.env)
        ((model Xg.prog Xg.w).den (.compLoop (.GeneratorExp elt [⟨tg, iter, ifs, 0⟩] scope gpos) 0 (.ref it) .none Xg.env)) [] s := by
  have hover : B.over (.compLoop (.GeneratorExp elt [⟨tg, iter, ifs, 0⟩] scope gpos) 0 (.ref it) .none Xg.env) [] = Xg.A := over_gen.trans hov
  intro m
  induction m using Nat.strongRecOn with
  | ind m ih =>
    intro n i acc H s₀ s hmn w crel ksS hst
    obtain ⟨cp, ecp, I, st, nf⟩ := hst
    have fpOk : ∀ {pins : List (Addr × Obj)} {σ' : L2.St} {H' : Hp} {s' : Shared}, pins.map (·.1) = gp.1 :: Ss → Inv Xg pins σ' H' s' → (∀ b ∈ fp, H' b = none) → ∀ b ∈ fp, FpOk Xg pins H' b := fun {pins σ' H' s'} ep I' hn b hb => by
      obtain ⟨a0, a1, a2, a3, a4, _⟩ := hfp b hb H' (hn b hb)
      refine ⟨a0, a1, a2, a3, a4, fun p hp z => ?_⟩
      rw [hS.pn, List.nil_append] at hp
      have hm : p.1 ∈ gp.1 :: Ss := by rw [← ep]; exact List.mem_map_of_mem hp
      rcases List.mem_cons.mp hm with q | q
      · rw [z] at q; exact hgf (q ▸ hb)
      · rw [z] at q; exact (hS.all b q).2.2.2.1 hb
    have epin : (gp :: cp).map (·.1) = gp.1 :: Ss := by rw [List.map_cons, ecp]
    have ownSs : ∀ {extra : List (Addr × Obj)} {σ' : L2.St} {H' : Hp} {s' : Shared}, Inv Xg ((gp :: cp) ++ extra) σ' H' s' → ∀ b ∈ Ss, s'.heap.get? b = s₀.heap.get? b := fun {extra σ' H' s'} I' b hb => by
      rw [← ksS b hb]
      rw [← ecp] at hb
      obtain ⟨p, hp, rfl⟩ := List.mem_map.mp hb
      rw [(I'.pin p (List.mem_append_right _ (List.mem_append_left _ (List.mem_cons_of_mem _ hp)))).1, (I.pin p (List.mem_append_right _ (List.mem_cons_of_mem _ hp))).1]
    have I := I
    show Seg _ B _ _ _ s₀ _ ((compTurn (.GeneratorExp elt [⟨tg, iter, ifs, 0⟩] scope gpos) 0 (.ref it) .none Xg.env).onRaise (leaving Xg.env)) [] s
    rw [compTurn_gen, Sem.onRaise_eq_wrap]
    refine seg_bind_wrap (wpAny_standAt ?_)
    rcases turn i m acc H w with ⟨stop, qf⟩ | ⟨go, Nx, hNx, step⟩
    · refine seg_bind_wrap ?_
      rw [hover]
      refine wpAny_mono (T.done Xg rfl rfl rfl hc i (gp :: cp) s (wipe σ vs) H (fun _ _ => False) I (fpOk epin I nf) st stop) (fun r s1 ⟨hr, I1⟩ => ?_) fun _ _ z => z.elim
      subst hr
      exact seg_end (.ok .next) ⟨rfl, acc, H, cp, ecp, I1, crel, ownSs (extra := []) (by rw [List.append_nil]; exact I1), qf⟩
    · refine seg_bind_wrap ?_
      rw [hover]
      refine wpAny_mono (T.item Xg rfl rfl rfl hc i (gp :: cp) s (wipe σ vs) H (fun _ _ => False) I (fpOk epin I nf) st go) (fun r s1 ⟨u, hr, h1⟩ => ?_) fun _ _ z => z.elim
      subst hr
      refine seg_bind_wrap ?_
      rw [hover]
      refine wpAny_mono h1 (fun _ s2 ⟨x, H2, I2, rx, y2, st2, n2⟩ => ?_) fun _ _ z => z.elim
      have I2' := I2.pinned (fpOk epin I2 n2) (T.obj _ _ st2)
      have hxe' : ∀ {α : Type} {t : Sem α} {Q : α → Shared → Prop} {E : Value → Shared → Prop} {s : Shared}, wpAny (model Xg.prog Xg.w) Xg.A t Q Xg.xe s → wpAny (model Xg.prog Xg.w) Xg.A t Q E s := fun h => wpAny_mono h (fun _ _ z => z) fun _ _ z => by rw [hxe] at z; exact z.elim
      refine seg_bind_wrap ?_
      rw [hover]
      refine wpAny_mono (hxe' (hg.run _ s2 (wipe σ vs) H2 x u _ I2' rx (step x H2 y2))) (fun _ s3 ⟨σ3, H3, I3, hw3, q3⟩ => ?_) fun _ _ z => z
      refine seg_bind_wrap ?_
      rw [hover]
      refine wpAny_mono (hxe' (ht.run _ s3 σ3 H3 _ I3 q3)) (fun b s4 ⟨H4, I4, q4⟩ => ?_) fun _ _ z => z
      -- the turn's end
      have fin : ∀ {s' : Shared} {H' : Hp}, Inv Xg ((gp :: cp) ++ pinsAt fp s2.heap) σ3 H' s' → GSt Xg gp fp tn Ss (wipe σ vs) (i + 1) H' s' := fun {s' H'} I' => by
        have pin' : ∀ b ∈ fp, ∀ o, s2.heap.get? b = some o → s'.heap.get? b = some o ∧ H' b = none := fun b hb o e =>
          let z := I'.pin (b, o) (List.mem_append_right _ (List.mem_append_right _ (mem_pinsAt hb e)))
          ⟨z.1, z.2.1⟩
        have hl : (wipe σ vs).length = σ3.length := by rw [← hw3, wipe_length]
        refine ⟨cp, ecp, (I'.unpinned (pins := gp :: cp)).weak hl (fun j v e => ?_), T.keep _ _ _ st2 fun b hb o e => (pin' b hb o e).1, fun b hb => ?_⟩
        · rw [← hw3] at e
          exact (wipe_some e).1
        · obtain ⟨o, e, _⟩ := T.obj _ _ st2 b hb
          exact (pin' b hb o e).2
      cases b with
      | false =>
        simp only [Bool.false_eq_true, if_false] at q4 ⊢
        obtain ⟨m', hm, w'⟩ := hNx _ _ q4
        exact seg_again rfl (ih m' hm n (i + 1) acc H4 s₀ s4 (by omega) w' crel (ownSs I4) (fin I4))
      | true =>
        simp only [if_true] at q4 ⊢
        have hy : ∀ v, yieldOut Xg.env v = yieldValue v := fun v => by simp only [yieldOut, hco, Bool.false_eq_true, if_false]
        simp only [hy]
        obtain ⟨n', rfl⟩ : ∃ n', n = n' + 1 := ⟨n - 1, by omega⟩
        rw [Sem.bind_eq_wrap', Sem.bind_eq_wrap', Sem.wrap_wrap, Sem.wrap_wrap]
        refine seg_wrap ?_
        rw [hover]
        refine wpAny_mono (hxe' (he.run _ s4 σ3 H4 _ I4 q4)) (fun yv s5 ⟨y, H5, I5, ry, q5⟩ => ?_) fun _ _ z => z
        refine seg_at (seg_yield rfl rfl rfl ⟨i + 1, y, acc, H5, Nx, ry, fin I5, crel, ownSs I5, q5, fun s6 acc' sl cr nx => ?_⟩)
        obtain ⟨m', hm, w'⟩ := hNx _ _ nx
        exact seg_again rfl (ih m' hm n' (i + 1) acc' H5 s6 s6 (by omega) w' cr (fun _ _ => rfl) ((fin I5).woken T hS sl))
end
end GX

namespace GX
open PySem PySem.Spec PyProof.Rows L2 GenW
section
variable {X : Cx} {pins : List (Addr × Obj)} {σ : L2.St} {H : Hp} {s : Shared}
/-- the generator is made: at a, its frame laid, its first turn not begun; s3: the state ahead of its frame -/
structure Made (X : Cx) (pins : List (Addr × Obj)) (σ : L2.St) (tg elt iter : Expr) (ifs : List Expr) (scope : Scope) (gpos : Pos) (own : List (Str × Nat)) (J : It) (code : Value) (H3 : Hp) (s3 : Shared) (it : Addr) (fp : List Addr) (tn : Nat → Heap → Prop) (a : Addr) (g : Nat) (gob : Obj) (s5 : Shared) : Prop where
  inv : Inv X pins σ H3 s3
  turn : Turn X.prog X.w X.K tg J fp it tn
  fps : ∀ b ∈ fp, FpOk X pins H3 b ∧ b < s3.heap.objs.size
  st : tn 0 s5.heap
  ag : s3.heap.objs.size ≤ a
  get : s5.heap.get? a = some gob
  obj : gob.cls = .type "generator" ∧ (∃ nm qn, gob.data = .fields #[.int g 0, nm, qn]) ∧ gob.slots = #[]
  gen : s5.gens[g]? = some (.fresh (.compStart (.GeneratorExp elt [⟨tg, iter, ifs, 0⟩] scope gpos) 0 (.ref it) .none (gEnv X scope s3 code)))
  sub : ∀ B : Around, BOk X B (gEnv X scope s3 code) → Inv (gcx X B s3 H3 scope (gEnv X scope s3 code) fp) [(a, gob)] (wipe σ (own.map (·.2))) H3 s5
theorem Made.isGen {tg elt iter : Expr} {ifs : List Expr} {scope : Scope} {gpos : Pos} {own : List (Str × Nat)} {J : It} {code : Value} {H3 : Hp} {s3 : Shared} {it : Addr} {fp : List Addr} {tn : Nat → Heap → Prop} {a : Addr} {g : Nat} {gob : Obj} {s5 : Shared} (M : Made X pins σ tg elt iter ifs scope gpos own J code H3 s3 it fp tn a g gob s5)
    {h : Heap} (e : h.get? a = some gob) : h.IsGen a g := let ⟨h1, ⟨nm, qn, h2⟩, h3⟩ := M.obj; ⟨gob, nm, qn, e, h1, h2, h3⟩
theorem gx_eval {tg elt iter : Expr} {ifs : List Expr} {scope : Scope} {gpos : Pos} {own : List (Str × Nat)} {ti : TI} {tc : TC} {P0 : Addr} {k : Nat} {Want : It → Value → Hp → Prop} {Q' : Value → Shared → Prop} (I : Inv X pins σ H s) (hN : X.N.Nodup) (room : Room k X.A) (hi : PI X tg iter ti) (hpc : PC X gpos scope tc) (BA : X.base.BuiltinsAt X.mg P0) (ok : GOk X.N X.env.scope scope own)
    (hs : ∀ v, genFold iter X.env v = pure v) (h : ti σ H fun J H1 => tc σ H1 fun code H2 => Want J code H2)
    (fin : ∀ J code H3 s3 it fp tn a g gob s5, Want J code H3 → Made X pins σ tg elt iter ifs scope gpos own J code H3 s3 it fp tn a g gob s5 → Q' (.ref a) s5) :
    wpAny (model X.prog X.w) X.A (eval (.GeneratorExp elt [⟨tg, iter, ifs, 0⟩] scope gpos) X.env) Q' X.xe s := by
  have hfree : ∀ y ∈ scope.names, y.2 = .free → ∃ c, X.env.cells.lookup y.1 = some c := fun y hy e => by
    rcases ok.blk.free y hy e with k | k
    · exact I.ok.has _ (.inl k)
    · exact I.ok.has _ (.inr k)
  have deep : X.A.depth < recursionLimit := by have := room.dp; omega
  rw [eval_GeneratorExp1 _ _ _ _ _ _ _ ok.co, closure_ok hfree]
  refine wpAny_bind (thn (hi.run pins s σ H _ I h) fun xv s1 h1 => ?_)
  refine wpAny_bind (wpAny_standAt ?_)
  refine wpAny_bind (wpAny_of_eq (hs xv) ?_)
  refine wpAny_bind (wpAny_holding (thn h1 fun itv s2 h2 => ?_))
  obtain ⟨it, fp, tn, J, H2, e, I2, T, st2, f2, q2⟩ := h2
  subst e
  refine wpAny_bind (wpAny_enterFrame I2.nolimit deep ?_)
  refine wpAny_bind (wpAny_pure ?_)
  have sz : ∀ b ∈ fp, b < s2.heap.objs.size := fun b hb => by
    obtain ⟨o, e, _⟩ := T.obj _ _ st2 b hb
    exact Heap.lt_size e
  have I2' := I2.pinned f2 (T.obj _ _ st2)
  refine wpAny_bind (thn (hpc.run _ s2 σ H2 _ _ I2' q2) fun code s3 ⟨H3, I3', le3, want⟩ => ?_)
  have pin3 : ∀ b ∈ fp, ∀ o, s2.heap.get? b = some o → s3.heap.get? b = some o ∧ H3 b = none := fun b hb o e =>
    let z := I3'.pin (b, o) (List.mem_append_right _ (List.mem_append_right _ (mem_pinsAt hb e)))
    ⟨z.1, z.2.1⟩
  have I3 : Inv X pins σ H3 s3 := I3'.unpinned
  have st3 : tn 0 s3.heap := T.keep _ _ _ st2 fun b hb o e => (pin3 b hb o e).1
  have f3 : ∀ b ∈ fp, FpOk X pins H3 b ∧ b < s3.heap.objs.size := fun b hb => by
    obtain ⟨o, e, _⟩ := T.obj _ _ st2 b hb
    exact ⟨⟨(pin3 b hb o e).2, (f2 b hb).2⟩, Heap.lt_size (pin3 b hb o e).1⟩
  obtain ⟨bm, ob, b1, b2, _, _, b3, b4, b5, b6⟩ := BA
  have glob : s3.heap.Ns X.env.globals X.mg := by rw [I3.ok.glob]; exact I3.mod.glob.keeps I3.bk
  refine wpAny_bind (wpAny_builtinsFor (m := X.mg) glob b1 b2 (I3.bk bm ob b3) b4 b5 b6 ?_)
  refine wpAny_bind (newGenEnv (s := s3) ok.blk.kind ok.dot fun h' hn' hs' => ?_)
  simp only [newGenerator, newFields]
  refine wpAny_bind (wpAny_newGen (wpAny_bind (wpAny_mkText (wpAny_bind (wpAny_mkText (wpAny_newObj_type ?_ (by size_fits)))))))
  have kp0 : ∀ b o, s3.heap.get? b = some o → h'.get? b = some o := fun b o e => hs'.extBut b o (Nat.ne_of_lt (Heap.lt_size e)) (pushCells_keeps _ _ _ _ (Heap.get?_push_of_some _ e))
  have hsz : s3.heap.objs.size < h'.objs.size := hn'.lt
  refine fin J code H3 s3 it fp tn h'.objs.size s3.gens.size _ _ want ⟨I3, T, f3, ?_, Nat.le_of_lt hsz, Heap.get?_push_size _ rfl, ⟨rfl, ⟨_, _, rfl⟩, rfl⟩, Array.getElem?_push_size .., fun B hB => ?_⟩
  · exact T.keep _ _ _ st3 fun b _ o e => Heap.get?_push_of_some _ (kp0 b o e)
  · have I4 := gx_start (t' := s3.toks + 1) (it := .ref it) I3 ok hN f3 hB hn' hs'
    have I5 := inv_gens (g' := s3.gens.push (.fresh (.compStart (.GeneratorExp elt [⟨tg, iter, ifs, 0⟩] scope gpos) 0 (.ref it) .none (gEnv X scope s3 code)))) (d' := s3.drawn) (t' := s3.toks + 1 + 1 + 1) (h' := h'.push { cls := .type "generator", data := .fields #[.int s3.gens.size 0, .str "<genexpr>" (s3.toks + 1), .str (X.env.qual ++ "<genexpr>") (s3.toks + 1 + 1)] }) I4 (fun b o e => Heap.get?_push_of_some _ e) (I3.bare.push rfl)
    refine I5.pins_of fun p hp => ?_
    rw [List.mem_singleton.mp hp]
    have nw : H3 h'.objs.size = none := I4.hok.fresh (Nat.le_refl _)
    exact ⟨Heap.get?_push_size _ rfl, nw, Nat.ne_of_gt I4.lt, I4.nofs (Nat.le_refl _), fun v z => by cases z⟩
end
end GX

namespace GX
open PySem PySem.Spec PyProof.Rows L2 GenW
section
variable {X : Cx} {pins : List (Addr × Obj)} {σ : L2.St} {tg elt iter : Expr} {ifs : List Expr} {scope : Scope} {gpos : Pos} {own : List (Str × Nat)} {J : It} {code : Value} {H3 : Hp} {s3 : Shared} {it : Addr} {fp : List Addr} {tn : Nat → Heap → Prop} {a : Addr} {g : Nat} {gob : Obj} {s5 : Shared}
/-- back in the def's context -/
theorem Made.back (M : Made X pins σ tg elt iter ifs scope gpos own J code H3 s3 it fp tn a g gob s5) {B : Around} {ps : List (Addr × Obj)} {σ' : L2.St} {H : Hp} {s1 s' : Shared} (I1 : Inv (gcx X B s3 H3 scope (gEnv X scope s3 code) fp) ps σ' H s1) (ho : s'.os = s1.os) (hb : AllBare s'.gens) (k : ∀ b o, s1.heap.get? b = some o → s'.heap.get? b = some o) : Inv X pins σ H s' := by
  refine M.inv.call' (ch := fp) (ho.trans I1.os) (I1.base.trans (Un.kept k)) (I1.hok.kept k) hb fun b hb => ?_
  have f := (M.fps b hb).1
  exact ⟨f.2.2.2.1, f.2.1, f.2.2.2.2.1, f.2.2.2.2.2⟩
abbrev Made.cx (_ : Made X pins σ tg elt iter ifs scope gpos own J code H3 s3 it fp tn a g gob s5) (A : Around) : Cx := gcx X (A.deeper (gEnv X scope s3 code)) s3 H3 scope (gEnv X scope s3 code) fp
theorem Made.bok (_ : Made X pins σ tg elt iter ifs scope gpos own J code H3 s3 it fp tn a g gob s5) {A : Around} (hd : A.handled = none) (hf : A.frames = some X.stack) : BOk X (A.deeper (gEnv X scope s3 code)) (gEnv X scope s3 code) := ⟨hd, Around.frames_deeper hf⟩
theorem Made.ss (M : Made X pins σ tg elt iter ifs scope gpos own J code H3 s3 it fp tn a g gob s5) {A : Around} (hB : BOk X (A.deeper (gEnv X scope s3 code)) (gEnv X scope s3 code)) {Ss : List Addr} (h : ∀ b ∈ Ss, s5.heap.objs.size ≤ b) : SsOk (M.cx A) (a, gob) fp Ss := by
  have I5 := M.sub _ hB
  refine ⟨fun b hb => ?_, rfl⟩
  have lt := h b hb
  refine ⟨Nat.le_trans I5.sz lt, Nat.ne_of_gt (Nat.lt_of_lt_of_le I5.lt lt), fun x c e z => ?_, fun z => ?_, fun z => ?_⟩
  · obtain ⟨v, q⟩ := I5.cell x c e
    have := q.lt
    rw [z] at this
    exact Nat.lt_irrefl _ (Nat.lt_of_lt_of_le this lt)
  · have := (M.fps b z).2
    exact Nat.lt_irrefl _ (Nat.lt_of_lt_of_le this (Nat.le_trans I5.sz lt))
  · have e := M.get
    have z : b = a := z
    rw [← z] at e
    exact Nat.lt_irrefl _ (Nat.lt_of_lt_of_le (Heap.lt_size e) lt)
/-- the first turn -/
theorem Made.wake (M : Made X pins σ tg elt iter ifs scope gpos own J code H3 s3 it fp tn a g gob s5) {α : Type} {CRel : α → Heap → Prop} {Stp : Stps α} {Fin : α → Hp → Prop} {Ss : List Addr} {g' : TG} {tt : TT} {te : TE} {W : Nat → Nat → α → Hp → Prop} {A : Around} {m0 n : Nat} {a0 : α} {s2 : Shared}
    (hco : scope.isCoroutine = false) (hd : A.handled = none) (hf : A.frames = some X.stack) (hg : PG (M.cx A) tg g') (ht : PTs (M.cx A) ifs tt) (he : PE (M.cx A) elt te) (turn : TurnsR Stp Fin J g' tt te (own.map (·.2)) σ W) (w0 : W 0 m0 a0 H3) (hmn : m0 < n)
    (ho : s2.os = s5.os) (hb : AllBare s2.gens) (hk : ∀ b o, s5.heap.get? b = some o → s2.heap.get? b = some o) (hS : ∀ b ∈ Ss, s5.heap.objs.size ≤ b ∧ ∃ o, s2.heap.get? b = some o ∧ ∀ v, o.data ≠ .cell v) (cr : CRel a0 s2.heap) :
    Seg (model X.prog X.w) A (RG CRel Fin (M.cx A) (a, gob) Ss (wipe σ (own.map (·.2)))) (YG CRel Stp (M.cx A) (a, gob) fp tn Ss (wipe σ (own.map (·.2)))) n s2 (.compStart (.GeneratorExp elt [⟨tg, iter, ifs, 0⟩] scope gpos) 0 (.ref it) .none (gEnv X scope s3 code))
      ((model X.prog X.w).den (.compStart (.GeneratorExp elt [⟨tg, iter, ifs, 0⟩] scope gpos) 0 (.ref it) .none (gEnv X scope s3 code))) [] s2 := by
  have hB := M.bok hd hf
  have I5 := M.sub _ hB
  have SO := M.ss hB fun b hb => (hS b hb).1
  have hgf : a ∉ fp := fun z => Nat.lt_irrefl _ (Nat.lt_of_lt_of_le (M.fps a z).2 M.ag)
  have fpOk : ∀ b ∈ fp, ∀ H' : Hp, H' b = none → FpOk (M.cx A) [] H' b := fun b hb H' hn => by
    refine ⟨hn, (I5.ok.exf b hb).1, I5.ok.exfs b hb, .inl hb, fun x c e => (I5.ok.exf b hb).2 x c e, fun p hp => absurd (show p ∈ ([] : List (Addr × Obj)) ++ [] from hp) (by simp)⟩
  have I2 : Inv (M.cx A) [(a, gob)] (wipe σ (own.map (·.2))) H3 s2 := by
    have J := inv_gens (g' := s2.gens) (d' := s2.drawn) (t' := s2.toks) I5 hk hb
    rw [GxR.sh_eta s5 s2 ho] at J
    exact J
  obtain ⟨cp, ecp, hcp⟩ := pins_exist Ss s2.heap fun b hb => (hS b hb).2
  have st2 : GSt (M.cx A) (a, gob) fp tn Ss (wipe σ (own.map (·.2))) 0 H3 s2 := by
    refine ⟨cp, ecp, I2.pins_of fun p hp => ?_, M.turn.keep _ _ _ M.st fun b _ o e => hk b o e, fun b hb => (M.fps b hb).1.1⟩
    rcases List.mem_cons.mp hp with z | z
    · rw [z]
      exact I2.pin (a, gob) (List.mem_append_right _ (List.mem_cons_self ..))
    · have hm : p.1 ∈ Ss := by rw [← ecp]; exact List.mem_map_of_mem z
      have lt := (hS _ hm).1
      exact ⟨(hcp p z).1, I5.hok.fresh lt, (SO.all _ hm).2.1, I5.nofs lt, (hcp p z).2⟩
  have loop := gx_loop (iter := iter) (gpos := gpos) (B := A) (CRel := CRel) (Xg := M.cx A) (scope := scope) (it := it) rfl rfl hco rfl M.turn fpOk SO hgf hg ht he turn m0 n 0 a0 H3 s2 s2 hmn w0 cr (fun _ _ => rfl) st2
  have hover : A.over (.compStart (.GeneratorExp elt [⟨tg, iter, ifs, 0⟩] scope gpos) 0 (.ref it) .none (gEnv X scope s3 code)) [] = A.deeper (gEnv X scope s3 code) := over_gen0
  show Seg _ A _ _ _ s2 _ ((compStart (.GeneratorExp elt [⟨tg, iter, ifs, 0⟩] scope gpos) 0 (.ref it) .none (gEnv X scope s3 code)).onRaise (leaving (gEnv X scope s3 code))) [] s2
  unfold compStart
  rw [Sem.onRaise_eq_wrap]
  show Seg _ A _ _ _ s2 _ ((ask >>= _).wrap _ _ _ _) [] s2
  have st := M.turn.keep _ _ _ M.st fun b _ o e => hk b o e
  refine seg_bind_wrap (wpAny_askSetting ?_)
  split
  · exact seg_again rfl loop
  · first
      | exact seg_bind_wrap (wpAny_rule (seg_bind_wrap (wpAny_standAt (seg_bind_wrap (M.turn.self _ 0 s2 _ _ st (seg_again rfl loop))))))
      | (refine seg_bind_wrap (wpAny_rule ?_); show Seg _ A _ _ _ s2 _ ((standAt iter.pos >>= _).wrap _ _ _ _) [] s2; exact seg_bind_wrap (wpAny_standAt (seg_bind_wrap (M.turn.self _ 0 s2 _ _ st (seg_again rfl loop)))))
/-- next -/
theorem Made.next (M : Made X pins σ tg elt iter ifs scope gpos own J code H3 s3 it fp tn a g gob s5) {α : Type} {CRel : α → Heap → Prop} {Stp : Stps α} {Fin : α → Hp → Prop} {Ss : List Addr} {σ0 : L2.St} {A : Around} {n : Nat} {s : Shared} {gs : GenState} {Qo : Option Value → Shared → Prop} {E : Value → Shared → Prop}
    (hh : A.handled = none) (hdp : A.depth < recursionLimit) (hG : s.heap.get? a = some gob) (hl : s.heap.NoLimit) (hgs : s.gens[g]? = some gs)
    (hgo : gs.Goes (model X.prog X.w) A.in1 (RG CRel Fin (M.cx A.in1) (a, gob) Ss σ0) (YG CRel Stp (M.cx A.in1) (a, gob) fp tn Ss σ0) n (.send .none) (s.setGen g .running))
    (hY : ∀ v s1 gs' i x acc H Nx, gs'.bare = true → RelV x v → GSt (M.cx A.in1) (a, gob) fp tn Ss σ0 i H s1 → CRel acc s.heap → (∀ b ∈ Ss, s1.heap.get? b = s.heap.get? b) → Stp acc x H Nx → g < s1.gens.size →
      (∀ s' acc', Slp Ss s1 s' → CRel acc' s'.heap → Nx acc' H → ∃ n', n = n' + 1 ∧ gs'.Goes (model X.prog X.w) A.in1 (RG CRel Fin (M.cx A.in1) (a, gob) Ss σ0) (YG CRel Stp (M.cx A.in1) (a, gob) fp tn Ss σ0) n' (.send .none) s') → Qo (some v) (s1.setGen g gs'))
    (hP : ∀ s1 h', RGp CRel Fin (M.cx A.in1) (a, gob) Ss σ0 (s.setGen g .running) s1 → (∀ b o, s1.heap.get? b = some o → h'.get? b = some o) → Qo none { s1.setGen g .finished with heap := h' }) :
    wpAny (model X.prog X.w) A (pyNext (.ref a)) Qo E s := by
  have hgl : g < s.gens.size := (Array.getElem?_eq_some_iff.mp hgs).1
  refine wpAny_mono (wpAny_gsz (n := g + 1) hgl (wpAny_pyNext_genexpQ (n := n) (P := fun _ => RGp CRel Fin (M.cx A.in1) (a, gob) Ss σ0) (Y := YG CRel Stp (M.cx A.in1) (a, gob) fp tn Ss σ0) (Q := fun r s' => g + 1 ≤ s'.gens.size → Qo r s') (E := fun e s' => g + 1 ≤ s'.gens.size → E e s') hh hl hdp (M.isGen hG) hgs hgo (fun v s1 gs' hb hv hsz => ?_) (fun s1 hp h' hk _ => hP s1 h' hp hk))) (fun _ _ z => z) (fun _ _ z => z)
  obtain ⟨i, x, acc, H, Nx, rx, st, cr, ks, sp, kap⟩ := hv
  have hsz1 : g < s1.gens.size := by
    have q : (s1.setGen g gs').gens.size = s1.gens.size := setGen_size _ _ _
    omega
  refine hY v s1 gs' i x acc H Nx hb rx st cr ks sp hsz1 fun s' acc' sl cr' nx => ?_
  have z := kap s' acc' sl cr' nx
  cases n with
  | zero => exact z.elim
  | succ n' => exact ⟨n', rfl, z⟩
end
end GX

namespace GX
open PySem PySem.Spec PyProof.Rows L2 GenW
def stAll (Q : VK) : Stps Unit := fun _ y H N => ∃ b, y = .bl b ∧ if b = true then N () H else Q (.bl false) H
def fiAll (Q : VK) : Unit → Hp → Prop := fun _ H => Q (.bl true) H
def stAny (Q : VK) : Stps Unit := fun _ y H N => ∃ b, y = .bl b ∧ if b = true then Q (.bl true) H else N () H
def fiAny (Q : VK) : Unit → Hp → Prop := fun _ H => Q (.bl false) H
def stSum (Q : VK) : Stps Int := fun acc y H N => ∃ i, y = .int i ∧ N (acc + i) H
def fiSum (Q : VK) : Int → Hp → Prop := fun acc H => Q (.int acc) H
def crU : Unit → Heap → Prop := fun _ _ => True
abbrev lstO (xs : Array Value) (c : Nat) : Obj := { cls := .type "list", dict := none, data := .seq xs c, slots := #[] }
def crSum (S : Addr) : Int → Heap → Prop := fun acc h => ∃ t c, h.get? S = some (lstO #[.int acc t] c)
section
variable {X : Cx} {pins : List (Addr × Obj)} {σ : L2.St} {tg elt iter : Expr} {ifs : List Expr} {scope : Scope} {gpos : Pos} {own : List (Str × Nat)} {J : It} {code : Value} {H3 : Hp} {s3 : Shared} {it : Addr} {fp : List Addr} {tn : Nat → Heap → Prop} {a : Addr} {g : Nat} {gob : Obj} {s5 : Shared}
theorem gst_get {Xg : Cx} {gp : Addr × Obj} {fp : List Addr} {tn : Nat → Heap → Prop} {Ss : List Addr} {σ0 : L2.St} {i : Nat} {H : Hp} {s : Shared} (h : GSt Xg gp fp tn Ss σ0 i H s) : s.heap.get? gp.1 = some gp.2 ∧ s.heap.NoLimit ∧ AllBare s.gens ∧ ∀ b ∈ Ss, H b = none := by
  obtain ⟨cp, ecp, I, _, _⟩ := h
  refine ⟨(I.pin gp (List.mem_append_right _ (List.mem_cons_self ..))).1, I.nolimit, I.bare, fun b hb => ?_⟩
  rw [← ecp] at hb
  obtain ⟨p, hp, rfl⟩ := List.mem_map.mp hb
  exact (I.pin p (List.mem_append_right _ (List.mem_cons_of_mem _ hp))).2.1
theorem Made.all_loop (M : Made X pins σ tg elt iter ifs scope gpos own J code H3 s3 it fp tn a g gob s5) {A : Around} {σ0 : L2.St} {R : Result → Shared → Prop} {Q : VK} (hh : A.handled = none) (hdp : A.depth < recursionLimit)
    (hret : ∀ v u H s', Inv X pins σ H s' → RelV v u → Q v H → R (.ok (.ret u)) s') : ∀ (n : Nat) (s : Shared) (gs : GenState), s.heap.get? a = some gob → s.heap.NoLimit → s.gens[g]? = some gs →
    gs.Goes (model X.prog X.w) A.in1.in1 (RG crU (fiAll Q) (M.cx A.in1.in1) (a, gob) [] σ0) (YG crU (stAll Q) (M.cx A.in1.in1) (a, gob) fp tn [] σ0) n (.send .none) (s.setGen g .running) →
    codeAny (model X.prog X.w) A (.builtin "all.loop" ⟨[.ref a], []⟩) R s := by
  intro n
  induction n with
  | zero =>
    intro s gs hG hl hgs hgo
    refine codeAny_builtin F.entry_all_loop ?_
    rw [Around.under_plainId F.plain_all_loop _]
    show wpAny _ A.in1 (pyNext (.ref a) >>= _) _ _ s
    refine wpAny_bind (M.next (A := A.in1) hh hdp hG hl hgs hgo (fun v s1 gs' i x acc H Nx hb rx st cr ks sp hsz kap => ?_) (fun s1 h' hp hk => ?_))
    · obtain ⟨b, rfl, q⟩ := sp
      cases rx
      refine wpAny_bind (wpAny_holding (wpAny_truthy_bool ?_))
      refine wpAny_bind (wpAny_letGo ?_)
      obtain ⟨_, _, bare, _⟩ := gst_get st
      cases b with
      | true =>
        simp only [if_true] at q
        obtain ⟨n', hn, _⟩ := kap s1 () ⟨rfl, bare, fun _ _ _ e => e, fun _ h => nomatch h⟩ trivial q
        omega
      | false =>
        simp only [Bool.false_eq_true, if_false] at q ⊢
        obtain ⟨cp, _, I1, _, _⟩ := st
        exact wpAny_bind (wpAny_rule (wpAny_pure (hret (.bl false) _ H _ (M.back I1 rfl (allBare_setGen bare hb) fun _ _ e => e) rfl q)))
    · obtain ⟨acc, H, cp, _, I1, _, _, q⟩ := hp
      exact wpAny_bind (wpAny_rule (wpAny_pure (hret (.bl true) _ H _ (M.back I1 rfl (allBare_setGen I1.bare rfl) hk) rfl q)))
  | succ n ih =>
    intro s gs hG hl hgs hgo
    refine codeAny_builtin F.entry_all_loop ?_
    rw [Around.under_plainId F.plain_all_loop _]
    show wpAny _ A.in1 (pyNext (.ref a) >>= _) _ _ s
    refine wpAny_bind (M.next (A := A.in1) hh hdp hG hl hgs hgo (fun v s1 gs' i x acc H Nx hb rx st cr ks sp hsz kap => ?_) (fun s1 h' hp hk => ?_))
    · obtain ⟨b, rfl, q⟩ := sp
      cases rx
      refine wpAny_bind (wpAny_holding (wpAny_truthy_bool ?_))
      refine wpAny_bind (wpAny_letGo ?_)
      obtain ⟨eG, nl, bare, _⟩ := gst_get st
      cases b with
      | true =>
        simp only [if_true] at q ⊢
        obtain ⟨n', hn, go'⟩ := kap ((s1.setGen g gs').setGen g .running) () ⟨rfl, allBare_setGen (s := s1.setGen g gs') (allBare_setGen bare hb) rfl, fun _ _ _ e => e, fun _ h => nomatch h⟩ trivial q
        obtain rfl : n' = n := by omega
        exact wpAny_pure ⟨plainId_quiet F.plain_all_loop _, ih _ gs' eG nl (setGen_at hsz) go'⟩
      | false =>
        simp only [Bool.false_eq_true, if_false] at q ⊢
        obtain ⟨cp, _, I1, _, _⟩ := st
        exact wpAny_bind (wpAny_rule (wpAny_pure (hret (.bl false) _ H _ (M.back I1 rfl (allBare_setGen bare hb) fun _ _ e => e) rfl q)))
    · obtain ⟨acc, H, cp, _, I1, _, _, q⟩ := hp
      exact wpAny_bind (wpAny_rule (wpAny_pure (hret (.bl true) _ H _ (M.back I1 rfl (allBare_setGen I1.bare rfl) hk) rfl q)))
theorem Made.any_loop (M : Made X pins σ tg elt iter ifs scope gpos own J code H3 s3 it fp tn a g gob s5) {A : Around} {σ0 : L2.St} {R : Result → Shared → Prop} {Q : VK} (hh : A.handled = none) (hdp : A.depth < recursionLimit)
    (hret : ∀ v u H s', Inv X pins σ H s' → RelV v u → Q v H → R (.ok (.ret u)) s') : ∀ (n : Nat) (s : Shared) (gs : GenState), s.heap.get? a = some gob → s.heap.NoLimit → s.gens[g]? = some gs →
    gs.Goes (model X.prog X.w) A.in1.in1 (RG crU (fiAny Q) (M.cx A.in1.in1) (a, gob) [] σ0) (YG crU (stAny Q) (M.cx A.in1.in1) (a, gob) fp tn [] σ0) n (.send .none) (s.setGen g .running) →
    codeAny (model X.prog X.w) A (.builtin "any.loop" ⟨[.ref a], []⟩) R s := by
  intro n
  induction n with
  | zero =>
    intro s gs hG hl hgs hgo
    refine codeAny_builtin F.entry_any_loop ?_
    rw [Around.under_plainId F.plain_any_loop _]
    show wpAny _ A.in1 (pyNext (.ref a) >>= _) _ _ s
    refine wpAny_bind (M.next (A := A.in1) hh hdp hG hl hgs hgo (fun v s1 gs' i x acc H Nx hb rx st cr ks sp hsz kap => ?_) (fun s1 h' hp hk => ?_))
    · obtain ⟨b, rfl, q⟩ := sp
      cases rx
      refine wpAny_bind (wpAny_holding (wpAny_truthy_bool ?_))
      refine wpAny_bind (wpAny_letGo ?_)
      obtain ⟨_, _, bare, _⟩ := gst_get st
      cases b with
      | false =>
        simp only [Bool.false_eq_true, if_false] at q
        obtain ⟨n', hn, _⟩ := kap s1 () ⟨rfl, bare, fun _ _ _ e => e, fun _ h => nomatch h⟩ trivial q
        omega
      | true =>
        simp only [if_true] at q ⊢
        obtain ⟨cp, _, I1, _, _⟩ := st
        exact wpAny_bind (wpAny_rule (wpAny_pure (hret (.bl true) _ H _ (M.back I1 rfl (allBare_setGen bare hb) fun _ _ e => e) rfl q)))
    · obtain ⟨acc, H, cp, _, I1, _, _, q⟩ := hp
      exact wpAny_bind (wpAny_rule (wpAny_pure (hret (.bl false) _ H _ (M.back I1 rfl (allBare_setGen I1.bare rfl) hk) rfl q)))
  | succ n ih =>
    intro s gs hG hl hgs hgo
    refine codeAny_builtin F.entry_any_loop ?_
    rw [Around.under_plainId F.plain_any_loop _]
    show wpAny _ A.in1 (pyNext (.ref a) >>= _) _ _ s
    refine wpAny_bind (M.next (A := A.in1) hh hdp hG hl hgs hgo (fun v s1 gs' i x acc H Nx hb rx st cr ks sp hsz kap => ?_) (fun s1 h' hp hk => ?_))
    · obtain ⟨b, rfl, q⟩ := sp
      cases rx
      refine wpAny_bind (wpAny_holding (wpAny_truthy_bool ?_))
      refine wpAny_bind (wpAny_letGo ?_)
      obtain ⟨eG, nl, bare, _⟩ := gst_get st
      cases b with
      | false =>
        simp only [Bool.false_eq_true, if_false] at q ⊢
        obtain ⟨n', hn, go'⟩ := kap ((s1.setGen g gs').setGen g .running) () ⟨rfl, allBare_setGen (s := s1.setGen g gs') (allBare_setGen bare hb) rfl, fun _ _ _ e => e, fun _ h => nomatch h⟩ trivial q
        obtain rfl : n' = n := by omega
        exact wpAny_pure ⟨plainId_quiet F.plain_any_loop _, ih _ gs' eG nl (setGen_at hsz) go'⟩
      | true =>
        simp only [if_true] at q ⊢
        obtain ⟨cp, _, I1, _, _⟩ := st
        exact wpAny_bind (wpAny_rule (wpAny_pure (hret (.bl true) _ H _ (M.back I1 rfl (allBare_setGen bare hb) fun _ _ e => e) rfl q)))
    · obtain ⟨acc, H, cp, _, I1, _, _, q⟩ := hp
      exact wpAny_bind (wpAny_rule (wpAny_pure (hret (.bl false) _ H _ (M.back I1 rfl (allBare_setGen I1.bare rfl) hk) rfl q)))
/-- the consumer has written its list -/
theorem slp_upd {S : Addr} {s1 : Shared} {g : Nat} {gs' gs2 : GenState} {f : Obj → Obj} {o : Obj} {tk : Nat} (bare : AllBare s1.gens) (hb : gs'.bare = true) (hb2 : gs2.bare = true) (eS : (s1.heap.update S f).get? S = some o) (nc : ∀ v, o.data ≠ .cell v) :
    Slp [S] s1 (({ s1.setGen g gs' with heap := s1.heap.update S f, toks := tk } : Shared).setGen g gs2) where
  os := rfl
  bare := allBare_setGen (s := { s1.setGen g gs' with heap := s1.heap.update S f, toks := tk }) (allBare_setGen (s := s1) bare hb) hb2
  keep := fun b o hb e => (Heap.get?_update_other _ _ (fun z => hb (by rw [z]; exact List.mem_singleton.mpr rfl))).trans e
  own := fun b hb => by rw [List.mem_singleton.mp hb]; exact ⟨o, eS, nc⟩
theorem Made.sum_loop (M : Made X pins σ tg elt iter ifs scope gpos own J code H3 s3 it fp tn a g gob s5) {A : Around} {σ0 : L2.St} {R : Result → Shared → Prop} {Q : VK} {S : Addr} (hh : A.handled = none) (hdp : A.depth < recursionLimit) (hSa : a ≠ S) (hSc : cStatics ≠ S)
    (hret : ∀ v u H s', Inv X pins σ H s' → RelV v u → Q v H → R (.ok (.ret u)) s') : ∀ (n : Nat) (s : Shared) (gs : GenState) (acc : Int) (t : Tok) (c : Nat) (st : Int), (st = 0 ∨ st = 2) → s.heap.get? a = some gob → s.heap.NoLimit → s.gens[g]? = some gs → s.heap.get? S = some (lstO #[.int acc t] c) →
    gs.Goes (model X.prog X.w) A.in1.in1 (RG (crSum S) (fiSum Q) (M.cx A.in1.in1) (a, gob) [S] σ0) (YG (crSum S) (stSum Q) (M.cx A.in1.in1) (a, gob) fp tn [S] σ0) n (.send .none) (s.setGen g .running) →
    codeAny (model X.prog X.w) A (.builtin "sum.loop" ⟨[.ref a, .ref S, rawInt st, rawInt 0], []⟩) R s := by
  have same : ∀ {acc acc' : Int} {t : Tok} {c : Nat} {h : Heap}, h.get? S = some (lstO #[.int acc t] c) → crSum S acc' h → acc' = acc := fun {acc acc' t c h} e ⟨t', c', e'⟩ => by
    rw [e] at e'
    cases e'
    rfl
  intro n
  induction n with
  | zero =>
    intro s gs acc t c st hst hG hl hgs eS hgo
    refine codeAny_builtin F.entry_sum_loop ?_
    rw [Around.under_plainId F.plain_sum_loop _]
    show wpAny _ A.in1 (seqItems? (.ref S) >>= _) _ _ s
    refine wpAny_bind (wpAny_seqItems eS rfl ?_)
    show wpAny _ A.in1 (tryCatch (pyNext (.ref a)) _ >>= _) _ _ s
    refine wpAny_bind (wpAny_tryCatch (M.next (A := A.in1) hh hdp hG hl hgs hgo (fun v s1 gs' i x acc' H Nx hb rx st' cr ks sp hsz kap => ?_) (fun s1 h' hp hk => ?_)))
    · obtain ⟨j, rfl, q⟩ := sp
      obtain ⟨eG, nl, bare, _⟩ := gst_get st'
      have e1 : s1.heap.get? S = some (lstO #[.int acc t] c) := by rw [ks S (List.mem_singleton.mpr rfl)]; exact eS
      have e2 := Heap.get?_update_self (Obj.mapSeq fun _ => #[Value.int (acc' + j) 0]) e1 rfl
      obtain ⟨n', hn, _⟩ := kap _ (acc' + j) (slp_upd (g := g) (gs' := .running) (gs2 := .running) (tk := 0) bare rfl rfl e2 (fun v z => by cases z)) ⟨0, _, e2⟩ q
      omega
    · obtain ⟨acc', H, cp, _, I1, cr, ks, q⟩ := hp
      rw [same eS cr] at q
      exact wpAny_pure (hret (.int acc) _ H _ (M.back I1 rfl (allBare_setGen I1.bare rfl) hk) ⟨t, rfl⟩ q)
  | succ n ih =>
    intro s gs acc t c st hst hG hl hgs eS hgo
    refine codeAny_builtin F.entry_sum_loop ?_
    rw [Around.under_plainId F.plain_sum_loop _]
    show wpAny _ A.in1 (seqItems? (.ref S) >>= _) _ _ s
    refine wpAny_bind (wpAny_seqItems eS rfl ?_)
    show wpAny _ A.in1 (tryCatch (pyNext (.ref a)) _ >>= _) _ _ s
    refine wpAny_bind (wpAny_tryCatch (M.next (A := A.in1) hh hdp hG hl hgs hgo (fun v s1 gs' i x acc' H Nx hb rx st' cr ks sp hsz kap => ?_) (fun s1 h' hp hk => ?_)))
    · obtain ⟨j, rfl, q⟩ := sp
      obtain ⟨tj, rfl⟩ := rx
      rw [same eS cr] at q
      obtain ⟨eG, nl, bare, _⟩ := gst_get st'
      have e1 : s1.heap.get? S = some (lstO #[.int acc t] c) := by rw [ks S (List.mem_singleton.mpr rfl)]; exact eS
      have on : ∀ (s2 : Shared) (tk : Tok) (c2 : Nat) (st2 : Int), (st2 = 0 ∨ st2 = 2) → s2.os = s1.os → AllBare s2.gens → s2.gens[g]? = some gs' → (∀ b o, b ≠ S → s1.heap.get? b = some o → s2.heap.get? b = some o) → s2.heap.get? S = some (lstO #[.int (acc + j) tk] c2) →
          codeAny (model X.prog X.w) A (.builtin "sum.loop" ⟨[.ref a, .ref S, rawInt st2, rawInt 0], []⟩) R s2 := fun s2 tk c2 st2 h2 ho hbb hg2 kp e2 => by
        obtain ⟨n', hn, go'⟩ := kap (s2.setGen g .running) (acc + j) ⟨ho, allBare_setGen hbb rfl, fun b o hb e => kp b o (fun z => hb (by rw [z]; exact List.mem_singleton.mpr rfl)) e, fun b hb => by rw [List.mem_singleton.mp hb]; exact ⟨_, e2, fun v z => by cases z⟩⟩ ⟨tk, c2, e2⟩ q
        obtain rfl : n' = n := by omega
        refine ih s2 gs' (acc + j) tk c2 st2 h2 (kp a _ hSa eG) ?_ hg2 e2 go'
        obtain ⟨mc, hns, hnn⟩ := nl
        exact ⟨mc, hns.at' fun o e => kp _ o hSc e, hnn⟩
      rcases hst with rfl | rfl
      · show wpAny _ A.in1 (if (_ : Bool) = true then (mkInt (acc + j) >>= _) else _) _ _ _
        split
        · refine wpAny_bind (wpAny_mkInt ?_)
          show wpAny _ A.in1 (updateSeq S (fun _ => #[.int (acc + j) s1.toks]) >>= _) _ _ _
          refine wpAny_bind ?_
          refine wpAny_updateSeq e1 rfl (wpAny_pure ⟨plainId_quiet F.plain_sum_loop _, ?_⟩)
          exact on _ _ _ 0 (.inl rfl) rfl (allBare_setGen bare hb) (setGen_at hsz) (fun b o hb e => (Heap.get?_update_other _ _ (Ne.symm hb)).trans e) (Heap.get?_update_self _ e1 rfl)
        · refine wpAny_bind (wpAny_rule ?_)
          refine wpAny_bind (wpAny_attempt (wpAny_holding (wpAny_add_int ?_)))
          show wpAny _ A.in1 (updateSeq S (fun _ => #[.int (acc + j) s1.toks]) >>= _) _ _ _
          refine wpAny_bind (wpAny_updateSeq e1 rfl ?_)
          have e2 := Heap.get?_update_self (Obj.mapSeq fun _ => #[Value.int (acc + j) s1.toks]) e1 rfl
          refine wpAny_bind (wpAny_letGo ?_)
          refine wpAny_bind (wpAny_updateSeq e2 rfl (wpAny_pure ⟨plainId_quiet F.plain_sum_loop _, ?_⟩))
          exact on _ _ _ 2 (.inr rfl) rfl (allBare_setGen bare hb) (setGen_at hsz) (fun b o hb e => (Heap.get?_update_other _ _ (Ne.symm hb)).trans ((Heap.get?_update_other _ _ (Ne.symm hb)).trans e)) (Heap.get?_update_self _ e2 rfl)
      · show wpAny _ A.in1 ((holding [Value.int j tj] (binaryOp .Add (.int acc t) (.int j tj))).attempt >>= _) _ _ _
        refine wpAny_bind (wpAny_attempt (wpAny_holding (wpAny_add_int ?_)))
        show wpAny _ A.in1 (updateSeq S (fun _ => #[.int (acc + j) s1.toks]) >>= _) _ _ _
        refine wpAny_bind (wpAny_updateSeq e1 rfl ?_)
        have e2 := Heap.get?_update_self (Obj.mapSeq fun _ => #[Value.int (acc + j) s1.toks]) e1 rfl
        refine wpAny_bind (wpAny_letGo ?_)
        refine wpAny_bind (wpAny_updateSeq e2 rfl (wpAny_pure ⟨plainId_quiet F.plain_sum_loop _, ?_⟩))
        exact on _ _ _ 2 (.inr rfl) rfl (allBare_setGen bare hb) (setGen_at hsz) (fun b o hb e => (Heap.get?_update_other _ _ (Ne.symm hb)).trans ((Heap.get?_update_other _ _ (Ne.symm hb)).trans e)) (Heap.get?_update_self _ e2 rfl)
    · obtain ⟨acc', H, cp, _, I1, cr, ks, q⟩ := hp
      rw [same eS cr] at q
      exact wpAny_pure (hret (.int acc) _ H _ (M.back I1 rfl (allBare_setGen I1.bare rfl) hk) ⟨t, rfl⟩ q)
end
end GX

namespace GX
open PySem PySem.Spec PyProof.Rows L2 GenW
def tGx {α : Type} (a0 : α) (Stp : VK → Stps α) (Fin : VK → α → Hp → Prop) (tc : TC) (ti : TI) (g : TG) (tt : TT) (te : Value → TE) (vs : List Nat) : TE := fun σ H Q => ti σ H fun J H1 => tc σ H1 fun code H2 => ∃ W : Nat → Nat → α → Hp → Prop, (∃ m, W 0 m a0 H2) ∧ TurnsR (Stp Q) (Fin Q) J g tt (te code) vs σ W
/-- a rule that holds in the expression's frame, whichever it is -/
abbrev Fam (X : Cx) (k : Nat) (scope : Scope) (Pp : Cx → Value → Prop) : Prop := ∀ (B : Around) (s : Shared) (H : Hp) (code : Value) (fp : List Addr), Room k B → B.guards = X.A.guards → Pp (gcx X B s H scope (gEnv X scope s code) fp) code
def crMax (S : Addr) : Option Int → Heap → Prop
  | none, h => ∃ c, h.get? S = some (lstO #[] c)
  | some m, h => ∃ t c, h.get? S = some (lstO #[.int m t, .int m t] c)
def stMax (Q : VK) : Stps (Option Int) := fun acc y H N => ∃ i, y = .int i ∧ N (some (match acc with | none => i | some j => if j < i then i else j)) H
def stMin (Q : VK) : Stps (Option Int) := fun acc y H N => ∃ i, y = .int i ∧ N (some (match acc with | none => i | some j => if i < j then i else j)) H
def fiMax (Q : VK) : Option Int → Hp → Prop := fun acc H => ∃ m, acc = some m ∧ Q (.int m) H
section
variable {X : Cx} {pins : List (Addr × Obj)} {σ : L2.St} {tg elt iter : Expr} {ifs : List Expr} {scope : Scope} {gpos : Pos} {own : List (Str × Nat)} {J : It} {code : Value} {H3 : Hp} {s3 : Shared} {it : Addr} {fp : List Addr} {tn : Nat → Heap → Prop} {a : Addr} {g : Nat} {gob : Obj} {s5 : Shared}
theorem crMax_none {S : Addr} {acc : Option Int} {h : Heap} {c : Nat} (e : h.get? S = some (lstO #[] c)) (x : crMax S acc h) : acc = none := by
  cases acc with
  | none => rfl
  | some m =>
    obtain ⟨t, c', e'⟩ := x
    rw [e] at e'
    cases e'
theorem crMax_some {S : Addr} {acc : Option Int} {h : Heap} {c : Nat} {m : Int} {t : Tok} (e : h.get? S = some (lstO #[.int m t, .int m t] c)) (x : crMax S acc h) : acc = some m := by
  cases acc with
  | none =>
    obtain ⟨c', e'⟩ := x
    rw [e] at e'
    cases e'
  | some m' =>
    obtain ⟨t', c', e'⟩ := x
    rw [e] at e'
    cases e'
    rfl
theorem Made.max_loop (M : Made X pins σ tg elt iter ifs scope gpos own J code H3 s3 it fp tn a g gob s5) {A : Around} {σ0 : L2.St} {R : Result → Shared → Prop} {Q : VK} {S : Addr} (hh : A.handled = none) (hdp : A.depth < recursionLimit) (hSa : a ≠ S) (hSc : cStatics ≠ S) (hS5 : s3.heap.objs.size ≤ S)
    (hret : ∀ v u H s', Inv X pins σ H s' → RelV v u → Q v H → R (.ok (.ret u)) s') : ∀ (n : Nat) (s : Shared) (gs : GenState) (c : Nat), s.heap.get? a = some gob → s.heap.NoLimit → s.gens[g]? = some gs →
    (s.heap.get? S = some (lstO #[] c) ∨ ∃ m t, s.heap.get? S = some (lstO #[.int m t, .int m t] c)) →
    gs.Goes (model X.prog X.w) A.in1.in1 (RG (crMax S) (fiMax Q) (M.cx A.in1.in1) (a, gob) [S] σ0) (YG (crMax S) (stMax Q) (M.cx A.in1.in1) (a, gob) fp tn [S] σ0) n (.send .none) (s.setGen g .running) →
    codeAny (model X.prog X.w) A (.builtin "max.loop" ⟨[.ref a, .none, .ref S], []⟩) R s := by
  have hname : (toString "max" ++ toString ".loop" : String) = "max.loop" := by decide
  intro n
  induction n with
  | zero =>
    intro s gs c hG hl hgs eS hgo
    refine codeAny_builtin F.entry_max_loop ?_
    rw [Around.under_plainId F.plain_max_loop _]
    show wpAny _ A.in1 (seqItems? (.ref S) >>= _) _ _ s
    have dead : ∀ {o : Obj} {v : Value} {s1 : Shared} {i : Nat} {x : V} {acc : Option Int} {H : Hp} {Nx : Option Int → Hp → Prop} {gs' : GenState}, (∃ xs c2, o = lstO xs c2) → s1.heap.get? S = some o → GSt (M.cx A.in1.in1) (a, gob) fp tn [S] σ0 i H s1 → stMax Q acc x H Nx →
        (∀ s' acc', Slp [S] s1 s' → crMax S acc' s'.heap → Nx acc' H → ∃ n', 0 = n' + 1 ∧ gs'.Goes (model X.prog X.w) A.in1.in1 (RG (crMax S) (fiMax Q) (M.cx A.in1.in1) (a, gob) [S] σ0) (YG (crMax S) (stMax Q) (M.cx A.in1.in1) (a, gob) fp tn [S] σ0) n' (.send .none) s') → False := fun {o v s1 i x acc H Nx gs'} ho e1 st' sp kap => by
      obtain ⟨j, rfl, q⟩ := sp
      obtain ⟨xs, c2, rfl⟩ := ho
      obtain ⟨eG, nl, bare, _⟩ := gst_get st'
      generalize (match acc with | none => j | some k => if k < j then j else k) = m' at q
      have e2 := Heap.get?_update_self (Obj.mapSeq fun _ => #[Value.int m' 0, Value.int m' 0]) e1 rfl
      obtain ⟨n', hn, _⟩ := kap _ (some m') (slp_upd (g := g) (gs' := .running) (gs2 := .running) (tk := 0) bare rfl rfl e2 (fun v z => by cases z)) ⟨0, _, e2⟩ q
      omega
    rcases eS with eS | ⟨m, t, eS⟩
    · refine wpAny_bind (wpAny_seqItems eS rfl ?_)
      show wpAny _ A.in1 (tryCatch (pyNext (.ref a)) _ >>= _) _ _ s
      refine wpAny_bind (wpAny_tryCatch (M.next (A := A.in1) hh hdp hG hl hgs hgo (fun v s1 gs' i x acc' H Nx hb rx st' cr ks sp hsz kap => ?_) (fun s1 h' hp hk => ?_)))
      · exact (dead (v := v) ⟨_, _, rfl⟩ (by rw [ks S (List.mem_singleton.mpr rfl)]; exact eS) st' sp kap).elim
      · obtain ⟨acc', H, cp, _, I1, cr, ks, m, em, q⟩ := hp
        have := crMax_none (h := s.heap) eS cr
        rw [this] at em
        cases em
    · refine wpAny_bind (wpAny_seqItems eS rfl ?_)
      show wpAny _ A.in1 (tryCatch (pyNext (.ref a)) _ >>= _) _ _ s
      refine wpAny_bind (wpAny_tryCatch (M.next (A := A.in1) hh hdp hG hl hgs hgo (fun v s1 gs' i x acc' H Nx hb rx st' cr ks sp hsz kap => ?_) (fun s1 h' hp hk => ?_)))
      · exact (dead (v := v) ⟨_, _, rfl⟩ (by rw [ks S (List.mem_singleton.mpr rfl)]; exact eS) st' sp kap).elim
      · obtain ⟨acc', H, cp, ecp, I1, cr, ks, m', em, q⟩ := hp
        have := crMax_some (h := s.heap) eS cr
        rw [this] at em
        cases em
        have e1 : h'.get? S = some (lstO #[.int m t, .int m t] c) := hk _ _ (by rw [ks S (List.mem_singleton.mpr rfl)]; exact eS)
        have nS : H S = none := by
          have hm : S ∈ cp.map (·.1) := by rw [ecp]; exact List.mem_singleton.mpr rfl
          obtain ⟨p, hp, e⟩ := List.mem_map.mp hm
          rw [← e]
          exact (I1.pin p (List.mem_append_right _ (List.mem_cons_of_mem _ hp))).2.1
        show wpAny _ A.in1 (updateSeq S (fun _ => #[]) >>= _) _ _ _
        refine wpAny_bind ?_
        refine wpAny_updateSeq e1 rfl (wpAny_bind (wpAny_letGo (wpAny_pure ?_)))
        have J1 := M.back (s' := { s1.setGen g .finished with heap := h' }) I1 rfl (allBare_setGen I1.bare rfl) hk
        obtain ⟨f0, f1, f2, f3, f4, f5⟩ := M.inv.fpOk hS5 nS
        exact hret (.int m) _ H _ (J1.turned (t' := s1.toks) (fun b o hb e => (Heap.get?_update_other _ _ (Ne.symm hb)).trans e) f0 f1 f3 f4 f5) ⟨t, rfl⟩ q
  | succ n ih =>
    intro s gs c hG hl hgs eS hgo
    refine codeAny_builtin F.entry_max_loop ?_
    rw [Around.under_plainId F.plain_max_loop _]
    show wpAny _ A.in1 (seqItems? (.ref S) >>= _) _ _ s
    rcases eS with eS | ⟨m, t, eS⟩
    · refine wpAny_bind (wpAny_seqItems eS rfl ?_)
      show wpAny _ A.in1 (tryCatch (pyNext (.ref a)) _ >>= _) _ _ s
      refine wpAny_bind (wpAny_tryCatch (M.next (A := A.in1) hh hdp hG hl hgs hgo (fun v s1 gs' i x acc' H Nx hb rx st' cr ks sp hsz kap => ?_) (fun s1 h' hp hk => ?_)))
      · obtain ⟨j, rfl, q⟩ := sp
        obtain ⟨tj, rfl⟩ := rx
        rw [crMax_none (h := s.heap) eS cr] at q
        obtain ⟨eG, nl, bare, _⟩ := gst_get st'
        have e1 : s1.heap.get? S = some (lstO #[] c) := by rw [ks S (List.mem_singleton.mpr rfl)]; exact eS
        show wpAny _ A.in1 (updateSeq S (fun _ => #[.int j tj, .int j tj]) >>= _) _ _ _
        refine wpAny_bind ?_
        refine wpAny_updateSeq e1 rfl ?_
        have e2 := Heap.get?_update_self (Obj.mapSeq fun _ => #[Value.int j tj, Value.int j tj]) e1 rfl
        rw [hname]
        refine wpAny_pure ⟨plainId_quiet F.plain_max_loop _, ?_⟩
        obtain ⟨n', hn, go'⟩ := kap _ (some j) (slp_upd (g := g) (gs' := gs') (gs2 := .running) (tk := s1.toks) bare hb rfl e2 (fun v z => by cases z)) ⟨tj, _, e2⟩ q
        obtain rfl : n' = n := by omega
        refine ih { s1.setGen g gs' with heap := s1.heap.update S (Obj.mapSeq fun _ => #[Value.int j tj, Value.int j tj]) } gs' _ ((Heap.get?_update_other _ _ (Ne.symm hSa)).trans eG) ?_ (setGen_at hsz) (.inr ⟨j, tj, e2⟩) go'
        obtain ⟨mc, hns, hnn⟩ := nl
        exact ⟨mc, hns.at' fun o e => (Heap.get?_update_other _ _ (Ne.symm hSc)).trans e, hnn⟩
      · obtain ⟨acc', H, cp, _, I1, cr, ks, m, em, q⟩ := hp
        have := crMax_none (h := s.heap) eS cr
        rw [this] at em
        cases em
    · refine wpAny_bind (wpAny_seqItems eS rfl ?_)
      show wpAny _ A.in1 (tryCatch (pyNext (.ref a)) _ >>= _) _ _ s
      refine wpAny_bind (wpAny_tryCatch (M.next (A := A.in1) hh hdp hG hl hgs hgo (fun v s1 gs' i x acc' H Nx hb rx st' cr ks sp hsz kap => ?_) (fun s1 h' hp hk => ?_)))
      · obtain ⟨j, rfl, q⟩ := sp
        obtain ⟨tj, rfl⟩ := rx
        rw [crMax_some (h := s.heap) eS cr] at q
        obtain ⟨eG, nl, bare, _⟩ := gst_get st'
        have e1 : s1.heap.get? S = some (lstO #[.int m t, .int m t] c) := by rw [ks S (List.mem_singleton.mpr rfl)]; exact eS
        show wpAny _ A.in1 (tryCatch (holding [.int j tj, .int j tj] (richCompare .Gt (.int j tj) (.int m t) >>= _)) _ >>= _) _ _ _
        refine wpAny_bind (wpAny_tryCatch (wpAny_holding (wpAny_bind (P.gt_int ?_))))
        refine wpAny_bind (wpAny_holding (wpAny_truthy_bool ?_))
        refine wpAny_bind (wpAny_letGo (wpAny_pure ?_))
        by_cases hb' : m < j
        · rw [decide_eq_true hb']
          simp only [if_true]
          have q : Nx (some j) H := by
            have z : Nx (some (if m < j then j else m)) H := q
            rw [if_pos hb'] at z
            exact z
          refine wpAny_bind ?_
          refine wpAny_updateSeq e1 rfl (wpAny_bind (wpAny_letGo ?_))
          have e2 := Heap.get?_update_self (Obj.mapSeq fun _ => #[Value.int j tj, Value.int j tj]) e1 rfl
          rw [hname]
          refine wpAny_pure ⟨plainId_quiet F.plain_max_loop _, ?_⟩
          obtain ⟨n', hn, go'⟩ := kap _ (some j) (slp_upd (g := g) (gs' := gs') (gs2 := .running) (tk := s1.toks) bare hb rfl e2 (fun v z => by cases z)) ⟨tj, _, e2⟩ q
          obtain rfl : n' = n := by omega
          refine ih { s1.setGen g gs' with heap := s1.heap.update S (Obj.mapSeq fun _ => #[Value.int j tj, Value.int j tj]) } gs' _ ((Heap.get?_update_other _ _ (Ne.symm hSa)).trans eG) ?_ (setGen_at hsz) (.inr ⟨j, tj, e2⟩) go'
          obtain ⟨mc, hns, hnn⟩ := nl
          exact ⟨mc, hns.at' fun o e => (Heap.get?_update_other _ _ (Ne.symm hSc)).trans e, hnn⟩
        · rw [decide_eq_false hb']
          simp only [Bool.false_eq_true, if_false]
          have q : Nx (some m) H := by
            have z : Nx (some (if m < j then j else m)) H := q
            rw [if_neg hb'] at z
            exact z
          refine wpAny_bind (wpAny_letGo ?_)
          rw [hname]
          refine wpAny_pure ⟨plainId_quiet F.plain_max_loop _, ?_⟩
          obtain ⟨n', hn, go'⟩ := kap ((s1.setGen g gs').setGen g .running) (some m) ⟨rfl, allBare_setGen (s := s1.setGen g gs') (allBare_setGen bare hb) rfl, fun _ _ _ e => e, fun b hb => by rw [List.mem_singleton.mp hb]; exact ⟨_, e1, fun v z => by cases z⟩⟩ ⟨t, _, e1⟩ q
          obtain rfl : n' = n := by omega
          exact ih _ gs' _ eG nl (setGen_at hsz) (.inr ⟨m, t, e1⟩) go'
      · obtain ⟨acc', H, cp, ecp, I1, cr, ks, m', em, q⟩ := hp
        have := crMax_some (h := s.heap) eS cr
        rw [this] at em
        cases em
        have e1 : h'.get? S = some (lstO #[.int m t, .int m t] c) := hk _ _ (by rw [ks S (List.mem_singleton.mpr rfl)]; exact eS)
        have nS : H S = none := by
          have hm : S ∈ cp.map (·.1) := by rw [ecp]; exact List.mem_singleton.mpr rfl
          obtain ⟨p, hp, e⟩ := List.mem_map.mp hm
          rw [← e]
          exact (I1.pin p (List.mem_append_right _ (List.mem_cons_of_mem _ hp))).2.1
        show wpAny _ A.in1 (updateSeq S (fun _ => #[]) >>= _) _ _ _
        refine wpAny_bind ?_
        refine wpAny_updateSeq e1 rfl (wpAny_bind (wpAny_letGo (wpAny_pure ?_)))
        have J1 := M.back (s' := { s1.setGen g .finished with heap := h' }) I1 rfl (allBare_setGen I1.bare rfl) hk
        obtain ⟨f0, f1, f2, f3, f4, f5⟩ := M.inv.fpOk hS5 nS
        exact hret (.int m) _ H _ (J1.turned (t' := s1.toks) (fun b o hb e => (Heap.get?_update_other _ _ (Ne.symm hb)).trans e) f0 f1 f3 f4 f5) ⟨t, rfl⟩ q
end
end GX

namespace GX
open PySem PySem.Spec PyProof.Rows L2 GenW
section
variable {X : Cx} {tg elt iter : Expr} {ifs : List Expr} {scope : Scope} {gpos p pos : Pos} {own : List (Str × Nat)} {ti : TI} {tc : TC} {P0 : Addr} {k : Nat} {g' : TG} {tt : TT} {te : Value → TE}
theorem room_in {A : Around} (r : Room (k + 3) A) (e : Env) : Room k (A.in1.in1.deeper e) := ⟨r.hd, by have := r.dp; show A.depth + 1 + 3 * k + 5 < _; omega, by have := r.un; show A.units + 1 + 1 + 3 + 16 * k + 200 < _; omega⟩
theorem pe_allX (hr : Room (k + 3) X.A) (hN : X.N.Nodup) (glob : Gl X "all") (free : X.mg "all" = none) (BA : X.base.BuiltinsAt X.mg P0) (hi : PI X tg iter ti) (hpc : PC X gpos scope tc) (ok : GOk X.N X.env.scope scope own)
    (hg : Fam X k scope fun Y _ => PG Y tg g') (ht : Fam X k scope fun Y _ => PTs Y ifs tt) (he : Fam X k scope fun Y code => PE Y elt (te code)) (hs : ∀ v, genFold iter X.env v = pure v := by intro _; rfl)
    (one : starEach [.GeneratorExp elt [⟨tg, iter, ifs, 0⟩] scope gpos] X.env = [(false, eval (.GeneratorExp elt [⟨tg, iter, ifs, 0⟩] scope gpos) X.env)] := by rfl) :
    PE X (.Call (.Name "all" p) [.GeneratorExp elt [⟨tg, iter, ifs, 0⟩] scope gpos] [] pos) (tGx () stAll fiAll tc ti g' tt te (own.map (·.2))) := by
  constructor
  intro pins s σ H Q I h
  refine wpAny_Call_Name_kw (ld_blt I glob free (show bootBuiltins "all" = some (.builtin "all") by decide +kernel) (callWith_builtin1 ?_ one (by rfl)) (by decide) (by decide))
  rw [one]
  refine Calls.spliced_cons (gx_eval I hN hr hi hpc BA ok hs h fun J code H3 s3 it fp tn a g gob s5 want M => Calls.spliced_nil ?_)
  obtain ⟨W, ⟨m0, w0⟩, turn⟩ := want
  have hd : X.A.depth < recursionLimit := by have := hr.dp; omega
  have hB := M.bok (A := X.A.in1.in1) hr.hd I.ok.frames
  have I5 := M.sub _ hB
  have rm := room_in hr (gEnv X scope s3 code)
  refine call_function_tree F.kind_all F.plain_all F.entry_all (F.args_all1 _) ?_
  unfold Builtin.«all»
  refine wpAny_bind (m := oneArg "all" _) (wpAny_pure ?_)
  refine wpAny_bind (wpAny_pyIter_gen (M.isGen M.get) ?_)
  refine wpAny_pure ⟨plainId_quiet F.plain_all_loop _, M.all_loop (σ0 := wipe σ (own.map (·.2))) hr.hd hd (fun v u H s' I' r q => ⟨v, H, I', r, q⟩) (m0 + 1) s5 _ M.get I5.nolimit M.gen ?_⟩
  refine ⟨rfl, ?_⟩
  exact M.wake (A := X.A.in1.in1) (s2 := s5.setGen g .running) ok.co hr.hd I.ok.frames (hg _ _ _ _ _ rm rfl) (ht _ _ _ _ _ rm rfl) (he _ _ _ _ _ rm rfl) turn w0 (Nat.lt_succ_self _) rfl (allBare_setGen I5.bare rfl) (fun _ _ e => e) (fun _ h => nomatch h) trivial
theorem pe_anyX (hr : Room (k + 3) X.A) (hN : X.N.Nodup) (glob : Gl X "any") (free : X.mg "any" = none) (BA : X.base.BuiltinsAt X.mg P0) (hi : PI X tg iter ti) (hpc : PC X gpos scope tc) (ok : GOk X.N X.env.scope scope own)
    (hg : Fam X k scope fun Y _ => PG Y tg g') (ht : Fam X k scope fun Y _ => PTs Y ifs tt) (he : Fam X k scope fun Y code => PE Y elt (te code)) (hs : ∀ v, genFold iter X.env v = pure v := by intro _; rfl)
    (one : starEach [.GeneratorExp elt [⟨tg, iter, ifs, 0⟩] scope gpos] X.env = [(false, eval (.GeneratorExp elt [⟨tg, iter, ifs, 0⟩] scope gpos) X.env)] := by rfl) :
    PE X (.Call (.Name "any" p) [.GeneratorExp elt [⟨tg, iter, ifs, 0⟩] scope gpos] [] pos) (tGx () stAny fiAny tc ti g' tt te (own.map (·.2))) := by
  constructor
  intro pins s σ H Q I h
  refine wpAny_Call_Name_kw (ld_blt I glob free (show bootBuiltins "any" = some (.builtin "any") by decide +kernel) (callWith_builtin1 ?_ one (by rfl)) (by decide) (by decide))
  rw [one]
  refine Calls.spliced_cons (gx_eval I hN hr hi hpc BA ok hs h fun J code H3 s3 it fp tn a g gob s5 want M => Calls.spliced_nil ?_)
  obtain ⟨W, ⟨m0, w0⟩, turn⟩ := want
  have hd : X.A.depth < recursionLimit := by have := hr.dp; omega
  have hB := M.bok (A := X.A.in1.in1) hr.hd I.ok.frames
  have I5 := M.sub _ hB
  have rm := room_in hr (gEnv X scope s3 code)
  refine call_function_tree F.kind_any F.plain_any F.entry_any (F.args_any1 _) ?_
  unfold Builtin.«any»
  refine wpAny_bind (m := oneArg "any" _) (wpAny_pure ?_)
  refine wpAny_bind (wpAny_pyIter_gen (M.isGen M.get) ?_)
  refine wpAny_pure ⟨plainId_quiet F.plain_any_loop _, M.any_loop (σ0 := wipe σ (own.map (·.2))) hr.hd hd (fun v u H s' I' r q => ⟨v, H, I', r, q⟩) (m0 + 1) s5 _ M.get I5.nolimit M.gen ?_⟩
  refine ⟨rfl, ?_⟩
  exact M.wake (A := X.A.in1.in1) (s2 := s5.setGen g .running) ok.co hr.hd I.ok.frames (hg _ _ _ _ _ rm rfl) (ht _ _ _ _ _ rm rfl) (he _ _ _ _ _ rm rfl) turn w0 (Nat.lt_succ_self _) rfl (allBare_setGen I5.bare rfl) (fun _ _ e => e) (fun _ h => nomatch h) trivial
theorem pe_sumX (hr : Room (k + 3) X.A) (hN : X.N.Nodup) (glob : Gl X "sum") (free : X.mg "sum" = none) (BA : X.base.BuiltinsAt X.mg P0) (hi : PI X tg iter ti) (hpc : PC X gpos scope tc) (ok : GOk X.N X.env.scope scope own)
    (hg : Fam X k scope fun Y _ => PG Y tg g') (ht : Fam X k scope fun Y _ => PTs Y ifs tt) (he : Fam X k scope fun Y code => PE Y elt (te code)) (hs : ∀ v, genFold iter X.env v = pure v := by intro _; rfl)
    (one : starEach [.GeneratorExp elt [⟨tg, iter, ifs, 0⟩] scope gpos] X.env = [(false, eval (.GeneratorExp elt [⟨tg, iter, ifs, 0⟩] scope gpos) X.env)] := by rfl) :
    PE X (.Call (.Name "sum" p) [.GeneratorExp elt [⟨tg, iter, ifs, 0⟩] scope gpos] [] pos) (tGx 0 stSum fiSum tc ti g' tt te (own.map (·.2))) := by
  constructor
  intro pins s σ H Q I h
  refine wpAny_Call_Name_kw (ld_blt I glob free (show bootBuiltins "sum" = some (.builtin "sum") by decide +kernel) (callWith_builtin1 ?_ one (by rfl)) (by decide) (by decide))
  rw [one]
  refine Calls.spliced_cons (gx_eval I hN hr hi hpc BA ok hs h fun J code H3 s3 it fp tn a g gob s5 want M => Calls.spliced_nil ?_)
  obtain ⟨W, ⟨m0, w0⟩, turn⟩ := want
  have hd : X.A.depth < recursionLimit := by have := hr.dp; omega
  have hB := M.bok (A := X.A.in1.in1) hr.hd I.ok.frames
  have I5 := M.sub _ hB
  have rm := room_in hr (gEnv X scope s3 code)
  have hSc : cStatics < s5.heap.objs.size := let ⟨_, hn, _⟩ := I5.nolimit; hn.lt
  refine call_function_tree F.kind_sum F.plain_sum F.entry_sum (F.args_sum1 _) ?_
  unfold Builtin.«sum»
  simp only [List.length_cons, List.length_nil]
  rw [if_neg (by decide)]
  refine wpAny_bind (wpAny_of_eq (show Builtin.Builtins.bindParams "sum" ["start"] 0 { } = pure [none] from rfl) ?_)
  refine wpAny_bind (wpAny_pyIter_gen (M.isGen M.get) ?_)
  refine wpAny_bind (wpAny_mkInt ?_)
  refine wpAny_bind (wpAny_pure ?_)
  simp only [List.forIn_cons, List.forIn_nil]
  refine wpAny_bind (wpAny_bind (wpAny_bind (wpAny_isInstance (T := "int") (b := false) (typeIs_int _ _ _) PySem.sub_int_str ?_)))
  simp only [Bool.false_eq_true, if_false]
  refine wpAny_pure (wpAny_bind (wpAny_bind (wpAny_isInstance (T := "int") (b := false) (typeIs_int _ _ _) PySem.sub_int_bytes ?_)))
  simp only [Bool.false_eq_true, if_false]
  refine wpAny_pure (wpAny_bind (wpAny_bind (wpAny_isInstance (T := "int") (b := false) (typeIs_int _ _ _) PySem.sub_int_bytearray ?_)))
  simp only [Bool.false_eq_true, if_false]
  refine wpAny_pure (wpAny_pure ?_)
  refine wpAny_bind (wpAny_newObj_type ?_)
  have eS : ({ s5 with heap := s5.heap.push { cls := .type "list", data := .seq #[Value.int 0 s5.toks] }, toks := s5.toks + 1 } : Shared).heap.get? s5.heap.objs.size = some (lstO #[.int 0 s5.toks] 0) := Heap.get?_push_size _ rfl
  have kp : ∀ b o, s5.heap.get? b = some o → (s5.heap.push { cls := .type "list", data := .seq #[Value.int 0 s5.toks] }).get? b = some o := fun b o e => Heap.get?_push_of_some _ e
  have al : a < s5.heap.objs.size := Heap.lt_size M.get
  refine wpAny_pure ⟨plainId_quiet F.plain_sum_loop _, M.sum_loop (σ0 := wipe σ (own.map (·.2))) hr.hd hd (Nat.ne_of_lt al) (Nat.ne_of_lt hSc) (fun v u H s' I' r q => ⟨v, H, I', r, q⟩) (m0 + 1) _ _ 0 _ 0 0 (.inl rfl) (kp _ _ M.get) (I5.nolimit.keeps kp) M.gen eS ?_⟩
  refine ⟨rfl, ?_⟩
  refine M.wake (A := X.A.in1.in1) ok.co hr.hd I.ok.frames (hg _ _ _ _ _ rm rfl) (ht _ _ _ _ _ rm rfl) (he _ _ _ _ _ rm rfl) turn w0 (Nat.lt_succ_self _) rfl (allBare_setGen (s := { s5 with heap := _, toks := _ }) I5.bare rfl) kp (fun b hb => ?_) ⟨_, _, eS⟩
  rw [List.mem_singleton.mp hb]
  exact ⟨Nat.le_refl _, _, eS, fun v z => by cases z⟩
theorem pe_maxX (hr : Room (k + 3) X.A) (hN : X.N.Nodup) (glob : Gl X "max") (free : X.mg "max" = none) (BA : X.base.BuiltinsAt X.mg P0) (hi : PI X tg iter ti) (hpc : PC X gpos scope tc) (ok : GOk X.N X.env.scope scope own)
    (hg : Fam X k scope fun Y _ => PG Y tg g') (ht : Fam X k scope fun Y _ => PTs Y ifs tt) (he : Fam X k scope fun Y code => PE Y elt (te code)) (hs : ∀ v, genFold iter X.env v = pure v := by intro _; rfl)
    (one : starEach [.GeneratorExp elt [⟨tg, iter, ifs, 0⟩] scope gpos] X.env = [(false, eval (.GeneratorExp elt [⟨tg, iter, ifs, 0⟩] scope gpos) X.env)] := by rfl) :
    PE X (.Call (.Name "max" p) [.GeneratorExp elt [⟨tg, iter, ifs, 0⟩] scope gpos] [] pos) (tGx none stMax fiMax tc ti g' tt te (own.map (·.2))) := by
  constructor
  intro pins s σ H Q I h
  have hname : (toString "max" ++ toString ".loop" : String) = "max.loop" := by decide
  refine wpAny_Call_Name_kw (ld_blt I glob free (show bootBuiltins "max" = some (.builtin "max") by decide +kernel) (callWith_builtin1 ?_ one (by rfl)) (by decide) (by decide))
  rw [one]
  refine Calls.spliced_cons (gx_eval I hN hr hi hpc BA ok hs h fun J code H3 s3 it fp tn a g gob s5 want M => Calls.spliced_nil ?_)
  obtain ⟨W, ⟨m0, w0⟩, turn⟩ := want
  have hd : X.A.depth < recursionLimit := by have := hr.dp; omega
  have hB := M.bok (A := X.A.in1.in1) hr.hd I.ok.frames
  have I5 := M.sub _ hB
  have rm := room_in hr (gEnv X scope s3 code)
  have hSc : cStatics < s5.heap.objs.size := let ⟨_, hn, _⟩ := I5.nolimit; hn.lt
  refine call_function_tree F.kind_max F.plain_max F.entry_max (F.args_max1 _) ?_
  show wpAny _ X.A.in1 (Builtin.Builtins.bindParams "max" ["key", "default"] 0 ⟨[], []⟩ >>= _) _ _ _
  refine wpAny_bind (wpAny_of_eq (show Builtin.Builtins.bindParams "max" ["key", "default"] 0 ⟨[], []⟩ = pure [none, none] from rfl) ?_)
  refine wpAny_bind (wpAny_pure ?_)
  refine wpAny_bind (wpAny_pyIter_gen (M.isGen M.get) ?_)
  refine wpAny_bind (wpAny_newObj_type ?_)
  have eS : ({ s5 with heap := s5.heap.push { cls := .type "list", data := .seq #[] } } : Shared).heap.get? s5.heap.objs.size = some (lstO #[] 0) := Heap.get?_push_size _ rfl
  have kp : ∀ b o, s5.heap.get? b = some o → (s5.heap.push { cls := .type "list", data := .seq #[] }).get? b = some o := fun b o e => Heap.get?_push_of_some _ e
  have al : a < s5.heap.objs.size := Heap.lt_size M.get
  rw [hname]
  refine wpAny_pure ⟨plainId_quiet F.plain_max_loop _, M.max_loop (σ0 := wipe σ (own.map (·.2))) hr.hd hd (Nat.ne_of_lt al) (Nat.ne_of_lt hSc) I5.sz (fun v u H s' I' r q => ⟨v, H, I', r, q⟩) (m0 + 1) _ _ 0 (kp _ _ M.get) (I5.nolimit.keeps kp) M.gen (.inl eS) ?_⟩
  refine ⟨rfl, ?_⟩
  refine M.wake (A := X.A.in1.in1) ok.co hr.hd I.ok.frames (hg _ _ _ _ _ rm rfl) (ht _ _ _ _ _ rm rfl) (he _ _ _ _ _ rm rfl) turn w0 (Nat.lt_succ_self _) rfl (allBare_setGen (s := { s5 with heap := _ }) I5.bare rfl) kp (fun b hb => ?_) ⟨_, eS⟩
  rw [List.mem_singleton.mp hb]
  exact ⟨Nat.le_refl _, _, eS, fun v z => by cases z⟩
end
end GX

namespace GX
open PySem PySem.Spec PyProof.Rows L2 GenW
section
variable {J : It} {n : Nat} {G : Hp → Prop} {Y : Nat → Hp → V → Hp → Prop} {g : TG} {tt : TT} {te : TE} {vs : List Nat} {σ : L2.St} {Q : VK} {H2 : Hp}
theorem turns_all (w : Walk J n G Y) (fb : Nat → Bool) (Iv : Hp → Prop) (h0 : Iv H2) (hG : ∀ H, Iv H → G H)
    (turn : ∀ i x H H' (Kt : V → Hp → Prop) (Kn : Hp → Prop), i < n → Iv H → Y i H x H' → (∀ H4, Iv H4 → Kt (.bl (fb i)) H4) → (fb i = true → ∀ H4, Iv H4 → Kn H4) → g x (wipe σ vs) H' fun σ2 H2 => wipe σ2 vs = wipe σ vs ∧ tt σ2 H2 fun b H3 => if b = true then te σ2 H3 Kt else Kn H3)
    (fin : ∀ H b, Iv H → (b = true ↔ ∀ i, i < n → fb i = true) → Q (.bl b) H) : ∃ W : Nat → Nat → Unit → Hp → Prop, (∃ m, W 0 m () H2) ∧ TurnsR (stAll Q) (fiAll Q) J g tt te vs σ W := by
  refine ⟨fun i m _ H => m = n - i ∧ i ≤ n ∧ Iv H ∧ ∀ j, j < i → fb j = true, ⟨n, by simp, Nat.zero_le _, h0, fun j h => absurd h (Nat.not_lt_zero _)⟩, ?_⟩
  rintro i m _ H ⟨rfl, hi, iv, al⟩
  have q := hG H iv
  by_cases hlt : i < n
  · refine .inr ⟨w.goes i H hlt q, fun _ H' => Iv H' ∧ fb i = true, fun _ H' ⟨z1, z2⟩ => ⟨n - (i + 1), by omega, rfl, hlt, z1, fun j hj => ?_⟩, fun x H' y => turn i x H H' _ _ hlt iv (w.yields i H x H' hlt q y) (fun H4 iv4 => ⟨fb i, rfl, ?_⟩) (fun e H4 iv4 => ⟨iv4, e⟩)⟩
    · by_cases e : j = i
      · rw [e]; exact z2
      · exact al j (by omega)
    · cases e : fb i with
      | true => rw [if_pos rfl]; exact ⟨iv4, rfl⟩
      | false =>
        rw [if_neg Bool.false_ne_true]
        refine fin H4 false iv4 ⟨(fun z => nomatch z), fun z => ?_⟩
        rw [z i hlt] at e
        cases e
  · have e : i = n := by omega
    subst e
    exact .inl ⟨w.stops H q, fin H true iv ⟨fun _ j hj => al j hj, fun _ => rfl⟩⟩
theorem turns_any (w : Walk J n G Y) (fb : Nat → Bool) (Iv : Hp → Prop) (h0 : Iv H2) (hG : ∀ H, Iv H → G H)
    (turn : ∀ i x H H' (Kt : V → Hp → Prop) (Kn : Hp → Prop), i < n → Iv H → Y i H x H' → (∀ H4, Iv H4 → Kt (.bl (fb i)) H4) → (fb i = false → ∀ H4, Iv H4 → Kn H4) → g x (wipe σ vs) H' fun σ2 H2 => wipe σ2 vs = wipe σ vs ∧ tt σ2 H2 fun b H3 => if b = true then te σ2 H3 Kt else Kn H3)
    (fin : ∀ H b, Iv H → (b = true ↔ ∃ i, i < n ∧ fb i = true) → Q (.bl b) H) : ∃ W : Nat → Nat → Unit → Hp → Prop, (∃ m, W 0 m () H2) ∧ TurnsR (stAny Q) (fiAny Q) J g tt te vs σ W := by
  refine ⟨fun i m _ H => m = n - i ∧ i ≤ n ∧ Iv H ∧ ∀ j, j < i → fb j = false, ⟨n, by simp, Nat.zero_le _, h0, fun j h => absurd h (Nat.not_lt_zero _)⟩, ?_⟩
  rintro i m _ H ⟨rfl, hi, iv, al⟩
  have q := hG H iv
  by_cases hlt : i < n
  · refine .inr ⟨w.goes i H hlt q, fun _ H' => Iv H' ∧ fb i = false, fun _ H' ⟨z1, z2⟩ => ⟨n - (i + 1), by omega, rfl, hlt, z1, fun j hj => ?_⟩, fun x H' y => turn i x H H' _ _ hlt iv (w.yields i H x H' hlt q y) (fun H4 iv4 => ⟨fb i, rfl, ?_⟩) (fun e H4 iv4 => ⟨iv4, e⟩)⟩
    · by_cases e : j = i
      · rw [e]; exact z2
      · exact al j (by omega)
    · cases e : fb i with
      | true => rw [if_pos rfl]; exact fin H4 true iv4 ⟨fun _ => ⟨i, hlt, e⟩, fun _ => rfl⟩
      | false => rw [if_neg Bool.false_ne_true]; exact ⟨iv4, rfl⟩
  · have e : i = n := by omega
    subst e
    refine .inl ⟨w.stops H q, fin H false iv ⟨(fun z => nomatch z), fun ⟨j, hj, z⟩ => ?_⟩⟩
    rw [al j hj] at z
    cases z
theorem turns_sum (w : Walk J n G Y) (v : Nat → Int) (Iv : Hp → Prop) (h0 : Iv H2) (hG : ∀ H, Iv H → G H)
    (turn : ∀ i x H H' (Kt : V → Hp → Prop) (Kn : Hp → Prop), i < n → Iv H → Y i H x H' → (∀ H4, Iv H4 → Kt (.int (v i)) H4) → (v i = 0 → ∀ H4, Iv H4 → Kn H4) → g x (wipe σ vs) H' fun σ2 H2 => wipe σ2 vs = wipe σ vs ∧ tt σ2 H2 fun b H3 => if b = true then te σ2 H3 Kt else Kn H3)
    (fin : ∀ H, Iv H → Q (.int (preSum v n)) H) : ∃ W : Nat → Nat → Int → Hp → Prop, (∃ m, W 0 m 0 H2) ∧ TurnsR (stSum Q) (fiSum Q) J g tt te vs σ W := by
  refine ⟨fun i m acc H => m = n - i ∧ i ≤ n ∧ Iv H ∧ acc = preSum v i, ⟨n, by simp, Nat.zero_le _, h0, rfl⟩, ?_⟩
  rintro i m acc H ⟨rfl, hi, iv, rfl⟩
  have q := hG H iv
  by_cases hlt : i < n
  · refine .inr ⟨w.goes i H hlt q, fun acc' H' => Iv H' ∧ acc' = preSum v (i + 1), fun acc' H' ⟨z1, z2⟩ => ⟨n - (i + 1), by omega, rfl, hlt, z1, z2⟩, fun x H' y => turn i x H H' _ _ hlt iv (w.yields i H x H' hlt q y) (fun H4 iv4 => ⟨v i, rfl, iv4, rfl⟩) (fun e H4 iv4 => ⟨iv4, ?_⟩)⟩
    show preSum v i = preSum v i + v i
    omega
  · have e : i = n := by omega
    subst e
    exact .inl ⟨w.stops H q, fin H iv⟩
theorem turns_max (w : Walk J n G Y) (v : Nat → Int) (hn : 0 < n) (Iv : Hp → Prop) (h0 : Iv H2) (hG : ∀ H, Iv H → G H)
    (turn : ∀ i x H H' (Kt : V → Hp → Prop) (Kn : Hp → Prop), i < n → Iv H → Y i H x H' → (∀ H4, Iv H4 → Kt (.int (v i)) H4) → g x (wipe σ vs) H' fun σ2 H2 => wipe σ2 vs = wipe σ vs ∧ tt σ2 H2 fun b H3 => if b = true then te σ2 H3 Kt else Kn H3)
    (fin : ∀ H m, Iv H → (∃ i, i < n ∧ v i = m) → (∀ i, i < n → v i ≤ m) → Q (.int m) H) : ∃ W : Nat → Nat → Option Int → Hp → Prop, (∃ m, W 0 m none H2) ∧ TurnsR (stMax Q) (fiMax Q) J g tt te vs σ W := by
  refine ⟨fun i m acc H => m = n - i ∧ i ≤ n ∧ Iv H ∧ ((i = 0 ∧ acc = none) ∨ ∃ k, acc = some k ∧ (∃ j, j < i ∧ v j = k) ∧ ∀ j, j < i → v j ≤ k), ⟨n, by simp, Nat.zero_le _, h0, .inl ⟨rfl, rfl⟩⟩, ?_⟩
  rintro i m acc H ⟨rfl, hi, iv, hacc⟩
  have q := hG H iv
  by_cases hlt : i < n
  · refine .inr ⟨w.goes i H hlt q, fun acc' H' => Iv H' ∧ ∃ k, acc' = some k ∧ (∃ j, j < i + 1 ∧ v j = k) ∧ ∀ j, j < i + 1 → v j ≤ k, fun acc' H' ⟨z1, z2⟩ => ⟨n - (i + 1), by omega, rfl, hlt, z1, .inr z2⟩, fun x H' y => turn i x H H' _ _ hlt iv (w.yields i H x H' hlt q y) (fun H4 iv4 => ⟨v i, rfl, iv4, ?_⟩)⟩
    rcases hacc with ⟨rfl, rfl⟩ | ⟨k, rfl, ⟨j, hj, ej⟩, al⟩
    · exact ⟨v 0, rfl, ⟨0, by omega, rfl⟩, fun j hj => by
        have e : j = 0 := by omega
        rw [e]
        exact Int.le_refl _⟩
    · refine ⟨_, rfl, ?_, fun j' hj' => ?_⟩
      · by_cases c : k < v i
        · exact ⟨i, by omega, (if_pos c).symm⟩
        · exact ⟨j, by omega, by rw [ej]; exact (if_neg c).symm⟩
      · show v j' ≤ if k < v i then v i else k
        by_cases e : j' = i
        · rw [e]; split <;> omega
        · have := al j' (by omega)
          split <;> omega
  · have e : i = n := by omega
    subst e
    rcases hacc with ⟨e, _⟩ | ⟨k, rfl, hk, al⟩
    · omega
    · exact .inl ⟨w.stops H q, k, rfl, fin H k iv hk al⟩
end
end GX

namespace GX
open PySem PySem.Spec PyProof.Rows L2 GenW
section
variable {X : Cx} {pins : List (Addr × Obj)} {σ : L2.St} {tg elt iter : Expr} {ifs : List Expr} {scope : Scope} {gpos : Pos} {own : List (Str × Nat)} {J : It} {code : Value} {H3 : Hp} {s3 : Shared} {it : Addr} {fp : List Addr} {tn : Nat → Heap → Prop} {a : Addr} {g : Nat} {gob : Obj} {s5 : Shared}
theorem Made.min_loop (M : Made X pins σ tg elt iter ifs scope gpos own J code H3 s3 it fp tn a g gob s5) {A : Around} {σ0 : L2.St} {R : Result → Shared → Prop} {Q : VK} {S : Addr} (hh : A.handled = none) (hdp : A.depth < recursionLimit) (hSa : a ≠ S) (hSc : cStatics ≠ S) (hS5 : s3.heap.objs.size ≤ S)
    (hret : ∀ v u H s', Inv X pins σ H s' → RelV v u → Q v H → R (.ok (.ret u)) s') : ∀ (n : Nat) (s : Shared) (gs : GenState) (c : Nat), s.heap.get? a = some gob → s.heap.NoLimit → s.gens[g]? = some gs →
    (s.heap.get? S = some (lstO #[] c) ∨ ∃ m t, s.heap.get? S = some (lstO #[.int m t, .int m t] c)) →
    gs.Goes (model X.prog X.w) A.in1.in1 (RG (crMax S) (fiMax Q) (M.cx A.in1.in1) (a, gob) [S] σ0) (YG (crMax S) (stMin Q) (M.cx A.in1.in1) (a, gob) fp tn [S] σ0) n (.send .none) (s.setGen g .running) →
    codeAny (model X.prog X.w) A (.builtin "min.loop" ⟨[.ref a, .none, .ref S], []⟩) R s := by
  have hname : (toString "min" ++ toString ".loop" : String) = "min.loop" := by decide
  intro n
  induction n with
  | zero =>
    intro s gs c hG hl hgs eS hgo
    refine codeAny_builtin F.entry_min_loop ?_
    rw [Around.under_plainId F.plain_min_loop _]
    show wpAny _ A.in1 (seqItems? (.ref S) >>= _) _ _ s
    have dead : ∀ {o : Obj} {v : Value} {s1 : Shared} {i : Nat} {x : V} {acc : Option Int} {H : Hp} {Nx : Option Int → Hp → Prop} {gs' : GenState}, (∃ xs c2, o = lstO xs c2) → s1.heap.get? S = some o → GSt (M.cx A.in1.in1) (a, gob) fp tn [S] σ0 i H s1 → stMin Q acc x H Nx →
        (∀ s' acc', Slp [S] s1 s' → crMax S acc' s'.heap → Nx acc' H → ∃ n', 0 = n' + 1 ∧ gs'.Goes (model X.prog X.w) A.in1.in1 (RG (crMax S) (fiMax Q) (M.cx A.in1.in1) (a, gob) [S] σ0) (YG (crMax S) (stMin Q) (M.cx A.in1.in1) (a, gob) fp tn [S] σ0) n' (.send .none) s') → False := fun {o v s1 i x acc H Nx gs'} ho e1 st' sp kap => by
      obtain ⟨j, rfl, q⟩ := sp
      obtain ⟨xs, c2, rfl⟩ := ho
      obtain ⟨eG, nl, bare, _⟩ := gst_get st'
      generalize (match acc with | none => j | some k => if j < k then j else k) = m' at q
      have e2 := Heap.get?_update_self (Obj.mapSeq fun _ => #[Value.int m' 0, Value.int m' 0]) e1 rfl
      obtain ⟨n', hn, _⟩ := kap _ (some m') (slp_upd (g := g) (gs' := .running) (gs2 := .running) (tk := 0) bare rfl rfl e2 (fun v z => by cases z)) ⟨0, _, e2⟩ q
      omega
    rcases eS with eS | ⟨m, t, eS⟩
    · refine wpAny_bind (wpAny_seqItems eS rfl ?_)
      show wpAny _ A.in1 (tryCatch (pyNext (.ref a)) _ >>= _) _ _ s
      refine wpAny_bind (wpAny_tryCatch (M.next (A := A.in1) hh hdp hG hl hgs hgo (fun v s1 gs' i x acc' H Nx hb rx st' cr ks sp hsz kap => ?_) (fun s1 h' hp hk => ?_)))
      · exact (dead (v := v) ⟨_, _, rfl⟩ (by rw [ks S (List.mem_singleton.mpr rfl)]; exact eS) st' sp kap).elim
      · obtain ⟨acc', H, cp, _, I1, cr, ks, m, em, q⟩ := hp
        have := crMax_none (h := s.heap) eS cr
        rw [this] at em
        cases em
    · refine wpAny_bind (wpAny_seqItems eS rfl ?_)
      show wpAny _ A.in1 (tryCatch (pyNext (.ref a)) _ >>= _) _ _ s
      refine wpAny_bind (wpAny_tryCatch (M.next (A := A.in1) hh hdp hG hl hgs hgo (fun v s1 gs' i x acc' H Nx hb rx st' cr ks sp hsz kap => ?_) (fun s1 h' hp hk => ?_)))
      · exact (dead (v := v) ⟨_, _, rfl⟩ (by rw [ks S (List.mem_singleton.mpr rfl)]; exact eS) st' sp kap).elim
      · obtain ⟨acc', H, cp, ecp, I1, cr, ks, m', em, q⟩ := hp
        have := crMax_some (h := s.heap) eS cr
        rw [this] at em
        cases em
        have e1 : h'.get? S = some (lstO #[.int m t, .int m t] c) := hk _ _ (by rw [ks S (List.mem_singleton.mpr rfl)]; exact eS)
        have nS : H S = none := by
          have hm : S ∈ cp.map (·.1) := by rw [ecp]; exact List.mem_singleton.mpr rfl
          obtain ⟨p, hp, e⟩ := List.mem_map.mp hm
          rw [← e]
          exact (I1.pin p (List.mem_append_right _ (List.mem_cons_of_mem _ hp))).2.1
        show wpAny _ A.in1 (updateSeq S (fun _ => #[]) >>= _) _ _ _
        refine wpAny_bind ?_
        refine wpAny_updateSeq e1 rfl (wpAny_bind (wpAny_letGo (wpAny_pure ?_)))
        have J1 := M.back (s' := { s1.setGen g .finished with heap := h' }) I1 rfl (allBare_setGen I1.bare rfl) hk
        obtain ⟨f0, f1, f2, f3, f4, f5⟩ := M.inv.fpOk hS5 nS
        exact hret (.int m) _ H _ (J1.turned (t' := s1.toks) (fun b o hb e => (Heap.get?_update_other _ _ (Ne.symm hb)).trans e) f0 f1 f3 f4 f5) ⟨t, rfl⟩ q
  | succ n ih =>
    intro s gs c hG hl hgs eS hgo
    refine codeAny_builtin F.entry_min_loop ?_
    rw [Around.under_plainId F.plain_min_loop _]
    show wpAny _ A.in1 (seqItems? (.ref S) >>= _) _ _ s
    rcases eS with eS | ⟨m, t, eS⟩
    · refine wpAny_bind (wpAny_seqItems eS rfl ?_)
      show wpAny _ A.in1 (tryCatch (pyNext (.ref a)) _ >>= _) _ _ s
      refine wpAny_bind (wpAny_tryCatch (M.next (A := A.in1) hh hdp hG hl hgs hgo (fun v s1 gs' i x acc' H Nx hb rx st' cr ks sp hsz kap => ?_) (fun s1 h' hp hk => ?_)))
      · obtain ⟨j, rfl, q⟩ := sp
        obtain ⟨tj, rfl⟩ := rx
        rw [crMax_none (h := s.heap) eS cr] at q
        obtain ⟨eG, nl, bare, _⟩ := gst_get st'
        have e1 : s1.heap.get? S = some (lstO #[] c) := by rw [ks S (List.mem_singleton.mpr rfl)]; exact eS
        show wpAny _ A.in1 (updateSeq S (fun _ => #[.int j tj, .int j tj]) >>= _) _ _ _
        refine wpAny_bind ?_
        refine wpAny_updateSeq e1 rfl ?_
        have e2 := Heap.get?_update_self (Obj.mapSeq fun _ => #[Value.int j tj, Value.int j tj]) e1 rfl
        rw [hname]
        refine wpAny_pure ⟨plainId_quiet F.plain_min_loop _, ?_⟩
        obtain ⟨n', hn, go'⟩ := kap _ (some j) (slp_upd (g := g) (gs' := gs') (gs2 := .running) (tk := s1.toks) bare hb rfl e2 (fun v z => by cases z)) ⟨tj, _, e2⟩ q
        obtain rfl : n' = n := by omega
        refine ih { s1.setGen g gs' with heap := s1.heap.update S (Obj.mapSeq fun _ => #[Value.int j tj, Value.int j tj]) } gs' _ ((Heap.get?_update_other _ _ (Ne.symm hSa)).trans eG) ?_ (setGen_at hsz) (.inr ⟨j, tj, e2⟩) go'
        obtain ⟨mc, hns, hnn⟩ := nl
        exact ⟨mc, hns.at' fun o e => (Heap.get?_update_other _ _ (Ne.symm hSc)).trans e, hnn⟩
      · obtain ⟨acc', H, cp, _, I1, cr, ks, m, em, q⟩ := hp
        have := crMax_none (h := s.heap) eS cr
        rw [this] at em
        cases em
    · refine wpAny_bind (wpAny_seqItems eS rfl ?_)
      show wpAny _ A.in1 (tryCatch (pyNext (.ref a)) _ >>= _) _ _ s
      refine wpAny_bind (wpAny_tryCatch (M.next (A := A.in1) hh hdp hG hl hgs hgo (fun v s1 gs' i x acc' H Nx hb rx st' cr ks sp hsz kap => ?_) (fun s1 h' hp hk => ?_)))
      · obtain ⟨j, rfl, q⟩ := sp
        obtain ⟨tj, rfl⟩ := rx
        rw [crMax_some (h := s.heap) eS cr] at q
        obtain ⟨eG, nl, bare, _⟩ := gst_get st'
        have e1 : s1.heap.get? S = some (lstO #[.int m t, .int m t] c) := by rw [ks S (List.mem_singleton.mpr rfl)]; exact eS
        show wpAny _ A.in1 (tryCatch (holding [.int j tj, .int j tj] (richCompare .Lt (.int j tj) (.int m t) >>= _)) _ >>= _) _ _ _
        refine wpAny_bind (wpAny_tryCatch (wpAny_holding (wpAny_bind (P.lt_int ?_))))
        refine wpAny_bind (wpAny_holding (wpAny_truthy_bool ?_))
        refine wpAny_bind (wpAny_letGo (wpAny_pure ?_))
        by_cases hb' : j < m
        · rw [decide_eq_true hb']
          simp only [if_true]
          have q : Nx (some j) H := by
            have z : Nx (some (if j < m then j else m)) H := q
            rw [if_pos hb'] at z
            exact z
          refine wpAny_bind ?_
          refine wpAny_updateSeq e1 rfl (wpAny_bind (wpAny_letGo ?_))
          have e2 := Heap.get?_update_self (Obj.mapSeq fun _ => #[Value.int j tj, Value.int j tj]) e1 rfl
          rw [hname]
          refine wpAny_pure ⟨plainId_quiet F.plain_min_loop _, ?_⟩
          obtain ⟨n', hn, go'⟩ := kap _ (some j) (slp_upd (g := g) (gs' := gs') (gs2 := .running) (tk := s1.toks) bare hb rfl e2 (fun v z => by cases z)) ⟨tj, _, e2⟩ q
          obtain rfl : n' = n := by omega
          refine ih { s1.setGen g gs' with heap := s1.heap.update S (Obj.mapSeq fun _ => #[Value.int j tj, Value.int j tj]) } gs' _ ((Heap.get?_update_other _ _ (Ne.symm hSa)).trans eG) ?_ (setGen_at hsz) (.inr ⟨j, tj, e2⟩) go'
          obtain ⟨mc, hns, hnn⟩ := nl
          exact ⟨mc, hns.at' fun o e => (Heap.get?_update_other _ _ (Ne.symm hSc)).trans e, hnn⟩
        · rw [decide_eq_false hb']
          simp only [Bool.false_eq_true, if_false]
          have q : Nx (some m) H := by
            have z : Nx (some (if j < m then j else m)) H := q
            rw [if_neg hb'] at z
            exact z
          refine wpAny_bind (wpAny_letGo ?_)
          rw [hname]
          refine wpAny_pure ⟨plainId_quiet F.plain_min_loop _, ?_⟩
          obtain ⟨n', hn, go'⟩ := kap ((s1.setGen g gs').setGen g .running) (some m) ⟨rfl, allBare_setGen (s := s1.setGen g gs') (allBare_setGen bare hb) rfl, fun _ _ _ e => e, fun b hb => by rw [List.mem_singleton.mp hb]; exact ⟨_, e1, fun v z => by cases z⟩⟩ ⟨t, _, e1⟩ q
          obtain rfl : n' = n := by omega
          exact ih _ gs' _ eG nl (setGen_at hsz) (.inr ⟨m, t, e1⟩) go'
      · obtain ⟨acc', H, cp, ecp, I1, cr, ks, m', em, q⟩ := hp
        have := crMax_some (h := s.heap) eS cr
        rw [this] at em
        cases em
        have e1 : h'.get? S = some (lstO #[.int m t, .int m t] c) := hk _ _ (by rw [ks S (List.mem_singleton.mpr rfl)]; exact eS)
        have nS : H S = none := by
          have hm : S ∈ cp.map (·.1) := by rw [ecp]; exact List.mem_singleton.mpr rfl
          obtain ⟨p, hp, e⟩ := List.mem_map.mp hm
          rw [← e]
          exact (I1.pin p (List.mem_append_right _ (List.mem_cons_of_mem _ hp))).2.1
        show wpAny _ A.in1 (updateSeq S (fun _ => #[]) >>= _) _ _ _
        refine wpAny_bind ?_
        refine wpAny_updateSeq e1 rfl (wpAny_bind (wpAny_letGo (wpAny_pure ?_)))
        have J1 := M.back (s' := { s1.setGen g .finished with heap := h' }) I1 rfl (allBare_setGen I1.bare rfl) hk
        obtain ⟨f0, f1, f2, f3, f4, f5⟩ := M.inv.fpOk hS5 nS
        exact hret (.int m) _ H _ (J1.turned (t' := s1.toks) (fun b o hb e => (Heap.get?_update_other _ _ (Ne.symm hb)).trans e) f0 f1 f3 f4 f5) ⟨t, rfl⟩ q
end
section
variable {X : Cx} {tg elt iter : Expr} {ifs : List Expr} {scope : Scope} {gpos p pos : Pos} {own : List (Str × Nat)} {ti : TI} {tc : TC} {P0 : Addr} {k : Nat} {g' : TG} {tt : TT} {te : Value → TE}
theorem pe_minX (hr : Room (k + 3) X.A) (hN : X.N.Nodup) (glob : Gl X "min") (free : X.mg "min" = none) (BA : X.base.BuiltinsAt X.mg P0) (hi : PI X tg iter ti) (hpc : PC X gpos scope tc) (ok : GOk X.N X.env.scope scope own)
    (hg : Fam X k scope fun Y _ => PG Y tg g') (ht : Fam X k scope fun Y _ => PTs Y ifs tt) (he : Fam X k scope fun Y code => PE Y elt (te code)) (hs : ∀ v, genFold iter X.env v = pure v := by intro _; rfl)
    (one : starEach [.GeneratorExp elt [⟨tg, iter, ifs, 0⟩] scope gpos] X.env = [(false, eval (.GeneratorExp elt [⟨tg, iter, ifs, 0⟩] scope gpos) X.env)] := by rfl) :
    PE X (.Call (.Name "min" p) [.GeneratorExp elt [⟨tg, iter, ifs, 0⟩] scope gpos] [] pos) (tGx none stMin fiMax tc ti g' tt te (own.map (·.2))) := by
  constructor
  intro pins s σ H Q I h
  have hname : (toString "min" ++ toString ".loop" : String) = "min.loop" := by decide
  refine wpAny_Call_Name_kw (ld_blt I glob free (show bootBuiltins "min" = some (.builtin "min") by decide +kernel) (callWith_builtin1 ?_ one (by rfl)) (by decide) (by decide))
  rw [one]
  refine Calls.spliced_cons (gx_eval I hN hr hi hpc BA ok hs h fun J code H3 s3 it fp tn a g gob s5 want M => Calls.spliced_nil ?_)
  obtain ⟨W, ⟨m0, w0⟩, turn⟩ := want
  have hd : X.A.depth < recursionLimit := by have := hr.dp; omega
  have hB := M.bok (A := X.A.in1.in1) hr.hd I.ok.frames
  have I5 := M.sub _ hB
  have rm := room_in hr (gEnv X scope s3 code)
  have hSc : cStatics < s5.heap.objs.size := let ⟨_, hn, _⟩ := I5.nolimit; hn.lt
  refine call_function_tree F.kind_min F.plain_min F.entry_min (F.args_min1 _) ?_
  show wpAny _ X.A.in1 (Builtin.Builtins.bindParams "min" ["key", "default"] 0 ⟨[], []⟩ >>= _) _ _ _
  refine wpAny_bind (wpAny_of_eq (show Builtin.Builtins.bindParams "min" ["key", "default"] 0 ⟨[], []⟩ = pure [none, none] from rfl) ?_)
  refine wpAny_bind (wpAny_pure ?_)
  refine wpAny_bind (wpAny_pyIter_gen (M.isGen M.get) ?_)
  refine wpAny_bind (wpAny_newObj_type ?_)
  have eS : ({ s5 with heap := s5.heap.push { cls := .type "list", data := .seq #[] } } : Shared).heap.get? s5.heap.objs.size = some (lstO #[] 0) := Heap.get?_push_size _ rfl
  have kp : ∀ b o, s5.heap.get? b = some o → (s5.heap.push { cls := .type "list", data := .seq #[] }).get? b = some o := fun b o e => Heap.get?_push_of_some _ e
  have al : a < s5.heap.objs.size := Heap.lt_size M.get
  rw [hname]
  refine wpAny_pure ⟨plainId_quiet F.plain_min_loop _, M.min_loop (σ0 := wipe σ (own.map (·.2))) hr.hd hd (Nat.ne_of_lt al) (Nat.ne_of_lt hSc) I5.sz (fun v u H s' I' r q => ⟨v, H, I', r, q⟩) (m0 + 1) _ _ 0 (kp _ _ M.get) (I5.nolimit.keeps kp) M.gen (.inl eS) ?_⟩
  refine ⟨rfl, ?_⟩
  refine M.wake (A := X.A.in1.in1) ok.co hr.hd I.ok.frames (hg _ _ _ _ _ rm rfl) (ht _ _ _ _ _ rm rfl) (he _ _ _ _ _ rm rfl) turn w0 (Nat.lt_succ_self _) rfl (allBare_setGen (s := { s5 with heap := _ }) I5.bare rfl) kp (fun b hb => ?_) ⟨_, eS⟩
  rw [List.mem_singleton.mp hb]
  exact ⟨Nat.le_refl _, _, eS, fun v z => by cases z⟩
end
section
variable {J : It} {n : Nat} {G : Hp → Prop} {Y : Nat → Hp → V → Hp → Prop} {g : TG} {tt : TT} {te : TE} {vs : List Nat} {σ : L2.St} {Q : VK} {H2 : Hp}
theorem turns_min (w : Walk J n G Y) (v : Nat → Int) (hn : 0 < n) (Iv : Hp → Prop) (h0 : Iv H2) (hG : ∀ H, Iv H → G H)
    (turn : ∀ i x H H' (Kt : V → Hp → Prop) (Kn : Hp → Prop), i < n → Iv H → Y i H x H' → (∀ H4, Iv H4 → Kt (.int (v i)) H4) → g x (wipe σ vs) H' fun σ2 H2 => wipe σ2 vs = wipe σ vs ∧ tt σ2 H2 fun b H3 => if b = true then te σ2 H3 Kt else Kn H3)
    (fin : ∀ H m, Iv H → (∃ i, i < n ∧ v i = m) → (∀ i, i < n → m ≤ v i) → Q (.int m) H) : ∃ W : Nat → Nat → Option Int → Hp → Prop, (∃ m, W 0 m none H2) ∧ TurnsR (stMin Q) (fiMax Q) J g tt te vs σ W := by
  refine ⟨fun i m acc H => m = n - i ∧ i ≤ n ∧ Iv H ∧ ((i = 0 ∧ acc = none) ∨ ∃ k, acc = some k ∧ (∃ j, j < i ∧ v j = k) ∧ ∀ j, j < i → k ≤ v j), ⟨n, by simp, Nat.zero_le _, h0, .inl ⟨rfl, rfl⟩⟩, ?_⟩
  rintro i m acc H ⟨rfl, hi, iv, hacc⟩
  have q := hG H iv
  by_cases hlt : i < n
  · refine .inr ⟨w.goes i H hlt q, fun acc' H' => Iv H' ∧ ∃ k, acc' = some k ∧ (∃ j, j < i + 1 ∧ v j = k) ∧ ∀ j, j < i + 1 → k ≤ v j, fun acc' H' ⟨z1, z2⟩ => ⟨n - (i + 1), by omega, rfl, hlt, z1, .inr z2⟩, fun x H' y => turn i x H H' _ _ hlt iv (w.yields i H x H' hlt q y) (fun H4 iv4 => ⟨v i, rfl, iv4, ?_⟩)⟩
    rcases hacc with ⟨rfl, rfl⟩ | ⟨k, rfl, ⟨j, hj, ej⟩, al⟩
    · exact ⟨v 0, rfl, ⟨0, by omega, rfl⟩, fun j hj => by
        have e : j = 0 := by omega
        rw [e]
        exact Int.le_refl _⟩
    · refine ⟨_, rfl, ?_, fun j' hj' => ?_⟩
      · by_cases c : v i < k
        · exact ⟨i, by omega, (if_pos c).symm⟩
        · exact ⟨j, by omega, by rw [ej]; exact (if_neg c).symm⟩
      · show (if v i < k then v i else k) ≤ v j'
        by_cases e : j' = i
        · rw [e]; split <;> omega
        · have := al j' (by omega)
          split <;> omega
  · have e : i = n := by omega
    subst e
    rcases hacc with ⟨e, _⟩ | ⟨k, rfl, hk, al⟩
    · omega
    · exact .inl ⟨w.stops H q, k, rfl, fin H k iv hk al⟩
end
end GX

/-! ## sets of texts that keep their order -/
namespace StS
open PySem PySem.Spec PyProof.Rows L2
/-- the text of an entry -/
def keyT (e : Int × Value) : Str := match e.2 with | .str x _ => x | _ => ⟨#[]⟩
/-- what the entries, the table tell of the texts that S has -/
structure Tx (w : World) (es : Array (Int × Value)) (t : SetTable) (S : Str → Bool) (n : Nat) : Prop where
  good : ∀ e ∈ es.toList, ∃ x u, e.2 = Value.str x u ∧ e.1 = hashStr w x
  uniq : (es.toList.map keyT).Nodup
  mem : ∀ x, S x = true ↔ x ∈ es.toList.map keyT
  room : es.size < scanBound
  fit : t.fits es.size = true
  num : es.size = n
  up : L2.Ris t.place.toList
  led : w.params.followText "set-order" = true ∨ t.led = true
def SetS (w : World) (h : Heap) (a : Addr) (S : Str → Bool) (n : Nat) : Prop := ∃ o es ep t, h.get? a = some o ∧ o.ExactSet ∧ o.data = .set es ep t ∧ Tx w es t S n
section
variable {P : Program} {w : World} {A : Around} {E : Value → Shared → Prop} {s : Shared} {a : Addr} {S : Str → Bool} {n : Nat}
theorem SetS.at {h h' : Heap} (R : SetS w h a S n) (k : ∀ o, h.get? a = some o → h'.get? a = some o) : SetS w h' a S n := let ⟨o, es, ep, t, e, r⟩ := R; ⟨o, es, ep, t, k o e, r⟩
theorem SetS.congr {h : Heap} {S' : Str → Bool} {n' : Nat} (R : SetS w h a S n) (q : ∀ x, S' x = S x) (qn : n' = n) : SetS w h a S' n' := by
  rw [show S' = S from funext q, qn]
  exact R
theorem isK {x y : Str} {u : Tok} : (strKind P w).is x (.str y u) = true ↔ y = x := by
  show Value.isStrOf x (.str y u) = true ↔ y = x
  simp only [Value.isStrOf, beq_iff_eq]
theorem Tx.elems {es : Array (Int × Value)} {t : SetTable} (X : Tx w es t S n) : ElemsOf (strKind P w) es.toList := fun e he => by
  obtain ⟨x, u, e1, e2⟩ := X.good e he
  refine ⟨⟨x, ?_, e2⟩, ?_⟩
  · rw [e1]
    exact isK.mpr rfl
  · rw [e1]
    rfl
theorem Tx.has {es : Array (Int × Value)} {t : SetTable} (X : Tx w es t S n) (x : Str) : S x = true ↔ ∃ e ∈ es.toList, (strKind P w).is x e.2 = true := by
  rw [X.mem x, List.mem_map]
  constructor
  · rintro ⟨e, he, q⟩
    obtain ⟨y, u, e1, _⟩ := X.good e he
    refine ⟨e, he, ?_⟩
    unfold keyT at q
    rw [e1] at q ⊢
    exact isK.mpr q
  · rintro ⟨e, he, q⟩
    obtain ⟨y, u, e1, _⟩ := X.good e he
    refine ⟨e, he, ?_⟩
    unfold keyT
    rw [e1] at q ⊢
    exact isK.mp q
theorem SetS.setOf {h : Heap} (R : SetS w h a S n) : h.SetOf (strKind P w) a S n := by
  obtain ⟨o, es, ep, t, ho, hx, hd, X⟩ := R
  exact ⟨o, es, ep, t, ho, hx, hd, X.elems, X.has, X.room, X.fit, X.num⟩
/-- what stands behind the store of an entry more -/
theorem tail_tx {g : Bool → Sem Unit} (quiet : ∀ (b : Bool) (s1 : Shared) (Q' : Unit → Shared → Prop), Q' () s1 → wpAny (model P w) A (g b) Q' E s1) {o : Obj} {es es1 : Array (Int × Value)} {ep : Nat} {t t2 : SetTable} {S' : Str → Bool} (ho : s.heap.get? a = some o) (hx : o.ExactSet) (hd : o.data = .set es ep t)
    (X : Tx w es1 t2 S' es1.size) {wasDummy : Bool} {R : Option Bool → Shared → Prop} (hR : ∀ h', Heap.SameBut a s.heap h' → SetS w h' a S' es1.size → R (some true) { s with heap := h' }) :
    wpAny (model P w) A (do
        storeSet a es1 t2
        if (!wasDummy && t2.tooFull) = true then do
            g (relayAll t2 es1 (SetTable.grown es1.size)).2.2
            storeSet a (relayAll t2 es1 (SetTable.grown es1.size)).1 (relayAll t2 es1 (SetTable.grown es1.size)).2.1
            pure (some true)
          else pure (some true)) R E s := by
  refine wpAny_bind (wpAny_storeSet_of ho hd ?_ (fits_of_scanBound X.room))
  have o1 := PpSet.storeB_at (es' := es1) (t' := t2) ho hd
  have b1 := Heap.SameBut.update s.heap a (Obj.putSet es1 t2)
  by_cases full : (!wasDummy && t2.tooFull) = true
  · rw [if_pos full]
    have pm := relayAll_perm t2 es1 (SetTable.grown es1.size)
    have q1 := relayAll_fits t2 es1 (SetTable.grown es1.size)
    have q2 := relayAll_ris t2 es1 (SetTable.grown es1.size)
    have q3 := relayAll_led t2 es1 (SetTable.grown es1.size)
    revert pm q1 q2 q3
    generalize relayAll t2 es1 (SetTable.grown es1.size) = Z
    obtain ⟨es2, t3, gave⟩ := Z
    intro pm q1 q2 q3
    have long : es2.size = es1.size := by
      have := pm.length_eq
      rwa [Array.length_toList, Array.length_toList] at this
    refine wpAny_bind (quiet _ _ _ (wpAny_bind (wpAny_storeSet_of o1 rfl ?_ (fits_of_scanBound (by show es2.size < scanBound; rw [long]; exact X.room)))))
    have o2 := PpSet.storeB_at (es' := es2) (t' := t3) o1 rfl
    exact wpAny_pure (hR _ (b1.trans (Heap.SameBut.update _ a _)) ⟨_, es2, _, t3, o2, hx, rfl, { good := fun e he => X.good e (pm.mem_iff.mp he), uniq := (pm.map keyT).nodup_iff.mpr X.uniq, mem := fun x => (X.mem x).trans (pm.map keyT).mem_iff.symm, room := (by rw [long]; exact X.room), fit := q1, num := long, up := q2, led := X.led.imp id fun z => (by rw [show t3.led = _ from q3]; exact z) }⟩)
  · rw [if_neg full]
    exact wpAny_pure (hR _ b1 ⟨_, es1, _, t2, o1, hx, rfl, X⟩)
theorem add_hashed {x : Str} {u : Tok} {Q : Bool → Shared → Prop} (R : SetS w s.heap a S n) (room : n + 1 < scanBound)
    (hQ : ∀ h', Heap.SameBut a s.heap h' → SetS w h' a (fun y => S y || decide (y = x)) (if S x = true then n else n + 1) → Q (!S x) { s with heap := h' }) : wpAny (model P w) A (setAddHashed a (.str x u) ((strKind P w).hash x)) Q E s := by
  obtain ⟨o, es, ep, t, ho, hx, hd, X⟩ := R
  have isx : (strKind P w).is x (.str x u) = true := isK.mpr rfl
  have scan : (Value.str x u).scannable = true := rfl
  have elems := X.elems (P := P)
  have quiet : ∀ (b : Bool) {s1 : Shared} {Q' : Unit → Shared → Prop}, Q' () s1 → wpAny (model P w) A (match b with | true => rule "set.scan.the-table-gave-way" | false => pure ()) Q' E s1 := fun b s1 Q' q => by
    cases b
    · exact wpAny_pure q
    · exact wpAny_rule q
  unfold setAddHashed setAddHashedIn
  refine wpAny_holding (wpAny_bind (wpAny_setState_of ho hd X.fit ?_))
  dsimp only
  rw [byScan_of scan X.room elems]
  simp only [↓reduceIte]
  unfold setAddByScan
  refine wpAny_bind (wpAny_bind (wpAny_rule (wpAny_bind (wpAny_setScan_of isx ho hd X.fit elems ?_))))
  cases found : List.findIdx? (fun e => (strKind P w).is x e.2) es.toList with
  | some j =>
    dsimp only
    obtain ⟨hj, pj, _⟩ := List.findIdx?_eq_some_iff_getElem.mp found
    have Sx : S x = true := (X.has (P := P) x).mpr ⟨_, List.getElem_mem hj, pj⟩
    have m1 : ∀ y, (S y || decide (y = x)) = true ↔ y ∈ es.toList.map keyT := fun y => by
      rw [Bool.or_eq_true, decide_eq_true_eq, ← X.mem y]
      exact ⟨fun z => z.elim id fun e => e ▸ Sx, .inl⟩
    have q := hQ s.heap (Heap.SameBut.refl a s.heap) ⟨o, es, ep, t, ho, hx, hd, { X with mem := m1, num := (by rw [if_pos Sx]; exact X.num) }⟩
    rw [Sx] at q
    exact wpAny_pure (wpAny_pure q)
  | none =>
    dsimp only
    have Sx : S x = false := by
      cases q : S x with
      | false => rfl
      | true =>
        obtain ⟨e, he, z⟩ := (X.has (P := P) x).mp q
        have := List.findIdx?_eq_none_iff.mp found e he
        rw [z] at this
        cases this
    have nx : x ∉ es.toList.map keyT := fun z => by
      rw [(X.mem x).mpr z] at Sx
      cases Sx
    have pm := layNew_perm t es ((strKind P w).hash x) (.str x u)
    have q1 := layNew_fits t es ((strKind P w).hash x) (.str x u)
    have q2 := layNew_ris t es ((strKind P w).hash x) (.str x u) X.up
    have q3 := layNew_led t es ((strKind P w).hash x) (.str x u)
    generalize layNew t es ((strKind P w).hash x) (.str x u) = Z at pm q1 q2 q3 ⊢
    obtain ⟨es1, t1, wasDummy, gave⟩ := Z
    dsimp only at pm q1 q2 q3 ⊢
    rw [Array.toList_push] at pm
    have pc : es1.toList.Perm (((strKind P w).hash x, Value.str x u) :: es.toList) := pm.trans (List.perm_append_singleton _ _)
    have pk : (es1.toList.map keyT).Perm (x :: es.toList.map keyT) := pc.map keyT
    have long : es1.size = n + 1 := by
      have := pc.length_eq
      rw [List.length_cons, Array.length_toList, Array.length_toList, X.num] at this
      exact this
    have new : ∀ t2 : SetTable, t2.fits es1.size = true → L2.Ris t2.place.toList → t2.led = t1.led → Tx w es1 t2 (fun y => S y || decide (y = x)) es1.size := fun t2 z1 z2 z3 => {
      good := fun e he => (List.mem_cons.mp (pc.mem_iff.mp he)).elim (fun z => ⟨x, u, by rw [z], by rw [z]; rfl⟩) (X.good e)
      uniq := pk.nodup_iff.mpr (List.nodup_cons.mpr ⟨nx, X.uniq⟩)
      mem := fun y => by
        rw [Bool.or_eq_true, decide_eq_true_eq, X.mem y, pk.mem_iff, List.mem_cons]
        exact Or.comm
      room := by rw [long]; exact room
      fit := z1
      num := rfl
      up := z2
      led := X.led.imp id fun z => by rw [z3, q3]; exact z }
    have fin : ∀ h', Heap.SameBut a s.heap h' → SetS w h' a (fun y => S y || decide (y = x)) es1.size → Q true { s with heap := h' } := fun h' sb r => by
      have q := hQ h' sb
      rw [Sx] at q
      rw [long] at r
      exact q r
    refine wpAny_bind (quiet _ ?_)
    split
    · refine wpAny_bind ?_
      rw [hashByValue_scannable 8 scan]
      refine wpAny_pure (tail_tx (fun b s1 Q' q => quiet b q) ho hx hd (new _ ?_ ?_ ?_) fun h' sb r => ?_)
      · first | (split <;> first | exact q1 | exact SetTable.fits_plain_off q1) | exact q1
      · first | (split <;> exact q2) | exact q2
      · first | (split <;> rfl) | rfl
      · dsimp only
        exact wpAny_pure (fin h' sb r)
    · refine wpAny_bind (wpAny_pure ?_)
      simp only [↓reduceIte]
      refine tail_tx (fun b s1 Q' q => quiet b q) ho hx hd (new t1 q1 q2 rfl) fun h' sb r => ?_
      dsimp only
      exact wpAny_pure (fin h' sb r)
/-- the set's add -/
theorem add_str {x : Str} {u : Tok} {Q : Value → Shared → Prop} (R : SetS w s.heap a S n) (room : n + 1 < scanBound)
    (hQ : ∀ h', Heap.SameBut a s.heap h' → SetS w h' a (fun y => S y || decide (y = x)) (if S x = true then n else n + 1) → Q .none { s with heap := h', toks := s.toks + 1 }) : wpAny (model P w) A (call (.builtin "set.add") [.ref a, .str x u]) Q E s := by
  refine wpAny_call_entry F.slot_set_add (SetS.setOf (P := P) R).typeIs F.entry_set_add ?_ (F.args_set_add_2 _ _)
  unfold Builtin.«set.add» Builtin.Frozenset.oneOther Builtin.Frozenset.addrOf setAdd
  simp only [List.isEmpty_nil, bind_assoc]
  refine wpAny_bind (wpAny_pure ?_)
  try dsimp only
  refine wpAny_bind (wpAny_pure ?_)
  try dsimp only
  refine wpAny_bind (wpAny_holding (wpAny_bind ((strKind P w).pyHash (k := x) (isK.mpr rfl) ?_)))
  refine add_hashed (s := { s with toks := s.toks + 1 }) R room fun h' sb r => ?_
  show wpAny _ _ (ret Value.none) _ _ _
  exact wpAny_pure ⟨_, rfl, hQ h' sb r⟩
theorem new_at {h : Heap} (ho : h.get? a = some { cls := .type "set", dict := none, data := .set #[] 0 (.fresh 0 0 (!w.params.followText "set-order")) }) : SetS w h a (fun _ => false) 0 :=
  have l : w.params.followText "set-order" = true ∨ (!w.params.followText "set-order") = true := by
    cases w.params.followText "set-order"
    · exact .inr rfl
    · exact .inl rfl
  ⟨_, #[], 0, _, ho, ⟨rfl, rfl, rfl⟩, rfl, ⟨(fun e he => by simp at he), (by simp), (fun x => by simp), (by decide), (by rfl), rfl, List.Pairwise.nil, l⟩⟩
theorem strs_all : ∀ (l : List Value), (∀ v ∈ l, ∃ x u, v = Value.str x u) → StrsAre l (l.map fun v => keyT (0, v))
  | [], _ => .nil
  | v :: l, h => by
    obtain ⟨x, u, rfl⟩ := h v (List.mem_cons_self ..)
    exact .cons x u (strs_all l fun y hy => h y (List.mem_cons_of_mem _ hy))
/-- sorted of a set of texts -/
theorem sorted_txts {Q : Value → Shared → Prop} (R : SetS w s.heap a S n) (calm : A.handled = none) (few : n < 64)
    (end_ : ∀ st p (out : Array Value) (c : Nat) (xs : List Str), (∀ b o, s.heap.get? b = some o → st.heap.get? b = some o) → st.gens = s.gens → st.os = s.os → s.heap.objs.size ≤ p → st.heap.get? p = some (seqObj "list" out c) → StrsAre out.toList xs → sortedS xs = true → xs.Nodup → (∀ x, x ∈ xs ↔ S x = true) → xs.length = n → Q (.ref p) st) :
    wpAny (model P w) A (call (.builtin "sorted") [.ref a]) Q E s := by
  obtain ⟨o, es, ep, t, ho, hx, hd, X⟩ := R
  refine Calls.call_function_entry kind_sorted plain_sorted entry_sorted (args_sorted1 _) ?_
  unfold Builtin.«sorted»
  refine wpAny_bind (m := checkCount "sorted" 1 1 _) (wpAny_pure (wpAny_bind (collect_set (A := A.in1) calm ⟨o, ho, hx.1, hd⟩ X.fit X.room X.up X.led fun s1 vs k1 hz g1 o1 pm => ?_)))
  have vlen : vs.length = n := by
    rw [pm.length_eq, List.length_map, Array.length_toList]
    exact X.num
  have isS := strs_all vs fun v hv => by
    obtain ⟨e, he, q⟩ := List.mem_map.mp (pm.mem_iff.mp hv)
    obtain ⟨x, u, e1, _⟩ := X.good e he
    exact ⟨x, u, by rw [← q]; exact e1⟩
  have keys : (vs.map fun v => keyT (0, v)).Perm (es.toList.map keyT) := by
    have q := pm.map fun v => keyT (0, v)
    rwa [List.map_map] at q
  refine wpAny_bind (wpAny_newList ?_ (by rw [vlen, sizeLine_eq]; omega))
  have new1 : (s1.heap.push (seqObj "list" vs.toArray 0)).get? s1.heap.objs.size = some (seqObj "list" vs.toArray 0) := Heap.get?_push_size _ rfl
  refine wpAny_bind (wpAny_holding (wpAny_call_entry slot_list_sort ⟨_, new1, rfl⟩ entry_list_sort (list_sort_treeK strKind_oneLt new1 isS.keysOf (fun v1 v2 rest e => keyKind_strs (by rw [← e]; exact isS)) (by rw [vlen]; exact few) fun st' hp hs => ⟨_, rfl, ?_⟩) (args_list_sort _)))
  obtain ⟨ys, g1', g2, g3⟩ := sorted_out_str isS hp hs
  obtain ⟨c, hc⟩ := sortedHeap_at (vs := vs) (out := (arrOf st').map (·.2)) new1
  have pn := g2.trans keys
  refine wpAny_pure ⟨_, rfl, end_ _ s1.heap.objs.size _ c ys (fun b u e => ?_) g1 o1 hz hc g1' g3 (pn.nodup_iff.mpr X.uniq) (fun x => by rw [pn.mem_iff, ← X.mem x]) (by rw [pn.length_eq, List.length_map, Array.length_toList]; exact X.num)⟩
  have q := k1 b u e
  have lt := Heap.lt_size q
  show (sortedHeap (s1.heap.push (seqObj "list" vs.toArray 0)) s1.heap.objs.size vs _).get? b = some u
  rw [sortedHeap_old (Nat.ne_of_lt lt) (by rw [size_push']; exact Nat.lt_succ_of_lt lt)]
  exact Heap.get?_push_of_some _ q
end
/-- a set of texts, as it is tracked -/
def SetSO (w : World) (a : Addr) (S : Str → Bool) (n : Nat) : HO := .ext fun h => SetS w h a S n
theorem setSO_new {w : World} {P : Program} {H : Hp} {h : Heap} {a : Addr} {S : Str → Bool} {n : Nat} (R : SetS w h a S n) : ObjOk P w H h a (SetSO w a S n) := ⟨R, let ⟨o, _, _, _, ho, _⟩ := R; ⟨o, ho⟩, fun _ _ x k => x.at k⟩
theorem setSO_get {X : Cx} {pins : List (Addr × Obj)} {σ : L2.St} {H : Hp} {s : Shared} {a : Addr} {S : Str → Bool} {n : Nat} (I : Inv X pins σ H s) (ha : H a = some (SetSO X.w a S n)) : SetS X.w s.heap a S n := (I.hok a _ ha).1
/-- sorted of such a set -/
def rSortedTx (w : World) : List V → Hp → VK → Prop := fun vs H Q => ∃ (a : Addr) (S : Str → Bool) (n : Nat), vs = [V.ref a] ∧ H a = some (SetSO w a S n) ∧ n < 64 ∧ ∀ (xs : List Str) (p : Addr), sortedS xs = true → xs.Nodup → (∀ x, x ∈ xs ↔ S x = true) → xs.length = n → H p = none → Q (.ref p) (upd H p (.lst (xs.map V.str)))
theorem cr_sortedTx {X : Cx} (hc : X.calm = true) : CallR X (.builtin "sorted") (rSortedTx X.w) := by
  intro pins s σ H vs us Q I r h
  obtain ⟨a, S, n, rfl, ha, few, q⟩ := h
  rw [Vals.ref1 r]
  refine sorted_txts (setSO_get I ha) (I.ok.hd hc) few fun st p out c xs k g o hp hg isS up nd mem cnt => ?_
  have len : (xs.map V.str).length ≤ sizeLine := by
    rw [List.length_map, cnt, sizeLine_eq]
    omega
  have new : H p = none := I.hok.fresh hp
  have J : Inv X pins σ (upd H p (.lst (xs.map V.str))) { s with heap := st.heap, gens := st.gens, drawn := st.drawn, toks := st.toks } :=
    I.call (ch := []) (Un.laid k hp new) (I.hok.laid k hp ⟨len, out.toList, c, vals_of_strs isS, hg⟩) (by rw [g]; exact I.bare) (fun _ z => nomatch z)
  have e : st = { s with heap := st.heap, gens := st.gens, drawn := st.drawn, toks := st.toks } := by
    cases st
    cases s
    cases o
    rfl
  rw [e]
  exact ⟨.ref p, _, J, rfl, q xs p up nd mem cnt new⟩
theorem addS_ok {X : Cx} {pins : List (Addr × Obj)} {σ : L2.St} {H : Hp} {s : Shared} {E : Value → Shared → Prop} {D : Addr} {S : Str → Bool} {n : Nat} {x : Str} {u : Tok} {Q : Value → Shared → Prop} (I : Inv X pins σ H s) (hD : H D = some (SetSO X.w D S n)) (room : n + 1 < scanBound)
    (q : ∀ s', Inv X pins σ (upd H D (SetSO X.w D (fun y => S y || decide (y = x)) (if S x = true then n else n + 1))) s' → Q .none s') : wpAny (model X.prog X.w) X.A (call (.builtin "set.add") [.ref D, .str x u]) Q E s := by
  refine add_str (setSO_get I hD) room fun h' sb new => q _ ?_
  exact I.write (e := D) (t' := s.toks + 1) (by rw [hD]; trivial) (.inl rfl) (fun b v hb hv => (sb.2 b hb).trans hv) (let ⟨o, _, _, _, ho, _⟩ := new; ⟨o, ho⟩) (setSO_new new)
end StS
/-! ### {elt for tg in iter if .. for tg1 in iter1 if ..}, elt a text -/
namespace StS
open PySem PySem.Spec PyProof.Rows L2
section
variable {prog : Program} {w : World} {A : Around} {R : Result → Shared → Prop} {s : Shared} {elt t0 i0 t1 i1 : Expr} {ifs0 ifs1 : List Expr} {scope : Scope} {pos : Pos} {it acc : Value} {env : Env}
abbrev Sc2 (elt t0 i0 t1 i1 : Expr) (ifs0 ifs1 : List Expr) (scope : Scope) (pos : Pos) : Expr := .SetComp elt [⟨t0, i0, ifs0, 0⟩, ⟨t1, i1, ifs1, 0⟩] scope pos
theorem turn_out : compTurn (Sc2 elt t0 i0 t1 i1 ifs0 ifs1 scope pos) 0 it acc env = (standAt i0.pos >>= fun _ => pyNext it >>= fun r => match r with
      | none => pure (.done .next)
      | some v => do
        letOwnedTupleGo t0 it v
        assign t0 env v
        let mut ok := true
        for c in ifs0 do
          if ok then ok ← isTrue c env (eval c env)
        if ok then
          let x ← eval i1 env
          standAt i1.pos
          let x ← foldedSetIterable i1 env x
          let _ ← runOwn (.compStart (Sc2 elt t0 i0 t1 i1 ifs0 ifs1 scope pos) 1 (← holding [x] (pyIter x)) acc env) env
        again (.compLoop (Sc2 elt t0 i0 t1 i1 ifs0 ifs1 scope pos) 0 it acc env)) := by rfl
theorem turn_in : compTurn (Sc2 elt t0 i0 t1 i1 ifs0 ifs1 scope pos) 1 it acc env = (standAt i1.pos >>= fun _ => pyNext it >>= fun r => match r with
      | none => pure (.done .next)
      | some v => do
        letOwnedTupleGo t1 it v
        assign t1 env v
        let mut ok := true
        for c in ifs1 do
          if ok then ok ← isTrue c env (eval c env)
        if ok then
          (do let v ← eval elt env; standAt elt.pos; let _ ← call (.builtin "set.add") [acc, v])
        again (.compLoop (Sc2 elt t0 i0 t1 i1 ifs0 ifs1 scope pos) 1 it acc env)) := by rfl
/-- what is asked of the tests of a clause -/
abbrev tests (ifs : List Expr) (env : Env) : Sem Bool := forIn ifs true fun c r => if r = true then do let ok ← isTrue c env (eval c env); pure (ForInStep.yield ok) else pure (ForInStep.yield r)
theorem loop_out (hs : ∀ x, foldedSetIterable i1 env x = pure x) (I : Nat → Shared → Prop)
    (turn : ∀ n s, I n s → wpAny (model prog w) A (pyNext it) (fun r s1 => match r with
      | none => R (.ok .next) s1
      | some v => wpAny (model prog w) A (letOwnedTupleGo t0 it v) (fun _ s2 => wpAny (model prog w) A (assign t0 env v) (fun _ s3 => wpAny (model prog w) A (tests ifs0 env) (fun ok s4 =>
            if ok = true then wpAny (model prog w) A (eval i1 env) (fun x s5 => wpAny (model prog w) A (pyIter x) (fun it1 s6 =>
              codeAny (model prog w) A (.compStart (Sc2 elt t0 i0 t1 i1 ifs0 ifs1 scope pos) 1 it1 acc env) (fun r s' => match r with
                | .ok _ => ∃ m, m < n ∧ I m s'
                | .error _ => False) s6) (notedBy (model prog w) A env fun e s' => R (.error e) s') s5) (notedBy (model prog w) A env fun e s' => R (.error e) s') s4
            else ∃ m, m < n ∧ I m s4) (notedBy (model prog w) A env fun e s' => R (.error e) s') s3) (notedBy (model prog w) A env fun e s' => R (.error e) s') s2) (notedBy (model prog w) A env fun e s' => R (.error e) s') s1) (notedBy (model prog w) A env fun e s' => R (.error e) s') s)
    (n : Nat) (h : I n s) : codeAny (model prog w) A (.compLoop (Sc2 elt t0 i0 t1 i1 ifs0 ifs1 scope pos) 0 it acc env) R s := by
  refine codeAny_loop rfl I (fun n s hI => ?_) n h
  show wpAny _ A ((compTurn (Sc2 elt t0 i0 t1 i1 ifs0 ifs1 scope pos) 0 it acc env).onRaise (fun x => do noteFrame x env; theTreesLotGoes x)) _ _ s
  refine wpAny_noted ?_
  rw [turn_out]
  refine wpAny_bind (wpAny_standAt (wpAny_bind (wpAny_mono (turn n s hI) (fun r s1 h1 => ?_) fun _ _ x => x)))
  cases r with
  | none => exact wpAny_pure h1
  | some v =>
    refine wpAny_bind (wpAny_mono h1 (fun _ s2 h2 => wpAny_bind (wpAny_mono h2 (fun _ s3 h3 => wpAny_bind (wpAny_mono h3 (fun ok s4 h4 => ?_) fun _ _ x => x)) fun _ _ x => x)) fun _ _ x => x)
    cases ok with
    | false => exact wpAny_pure ⟨rfl, h4⟩
    | true =>
      refine wpAny_bind (wpAny_mono h4 (fun x s5 h5 => wpAny_bind (wpAny_standAt (wpAny_bind (wpAny_of_eq (hs x) (wpAny_bind (wpAny_holding (wpAny_mono h5 (fun it1 s6 h6 => ?_) fun _ _ x => x))))))) fun _ _ x => x)
      refine wpAny_bind (wpAny_runOwn ?_)
      rw [Around.mark_none]
      refine codeAny_mono h6 fun r s' hr => ?_
      cases r with
      | error e => exact hr.elim
      | ok f =>
        first
          | exact wpAny_pure ⟨rfl, hr⟩
          | exact wpAny_bind (wpAny_pure (wpAny_pure ⟨rfl, hr⟩))
theorem loop_in (I : Nat → Shared → Prop)
    (turn : ∀ n s, I n s → wpAny (model prog w) A (pyNext it) (fun r s1 => match r with
      | none => R (.ok .next) s1
      | some v => wpAny (model prog w) A (letOwnedTupleGo t1 it v) (fun _ s2 => wpAny (model prog w) A (assign t1 env v) (fun _ s3 => wpAny (model prog w) A (tests ifs1 env) (fun ok s4 =>
            if ok = true then wpAny (model prog w) A (eval elt env) (fun x s5 => wpAny (model prog w) A (call (.builtin "set.add") [acc, x]) (fun _ s6 => ∃ m, m < n ∧ I m s6) (notedBy (model prog w) A env fun e s' => R (.error e) s') s5) (notedBy (model prog w) A env fun e s' => R (.error e) s') s4
            else ∃ m, m < n ∧ I m s4) (notedBy (model prog w) A env fun e s' => R (.error e) s') s3) (notedBy (model prog w) A env fun e s' => R (.error e) s') s2) (notedBy (model prog w) A env fun e s' => R (.error e) s') s1) (notedBy (model prog w) A env fun e s' => R (.error e) s') s)
    (n : Nat) (h : I n s) : codeAny (model prog w) A (.compLoop (Sc2 elt t0 i0 t1 i1 ifs0 ifs1 scope pos) 1 it acc env) R s := by
  refine codeAny_loop rfl I (fun n s hI => ?_) n h
  show wpAny _ A ((compTurn (Sc2 elt t0 i0 t1 i1 ifs0 ifs1 scope pos) 1 it acc env).onRaise (fun x => do noteFrame x env; theTreesLotGoes x)) _ _ s
  refine wpAny_noted ?_
  rw [turn_in]
  refine wpAny_bind (wpAny_standAt (wpAny_bind (wpAny_mono (turn n s hI) (fun r s1 h1 => ?_) fun _ _ x => x)))
  cases r with
  | none => exact wpAny_pure h1
  | some v =>
    refine wpAny_bind (wpAny_mono h1 (fun _ s2 h2 => wpAny_bind (wpAny_mono h2 (fun _ s3 h3 => wpAny_bind (wpAny_mono h3 (fun ok s4 h4 => ?_) fun _ _ x => x)) fun _ _ x => x)) fun _ _ x => x)
    cases ok with
    | false => exact wpAny_pure ⟨rfl, h4⟩
    | true => exact wpAny_bind (wpAny_bind (wpAny_mono h4 (fun x s5 h5 => wpAny_bind (wpAny_standAt (wpAny_bind (wpAny_mono h5 (fun _ s6 h6 => wpAny_pure (wpAny_pure ⟨rfl, h6⟩)) fun _ _ x => x)))) fun _ _ x => x))
theorem start_in (h0 : codeAny (model prog w) A (.compLoop (Sc2 elt t0 i0 t1 i1 ifs0 ifs1 scope pos) 1 it acc env) R s)
    (h : wpAny (model prog w) A (pyIter it) (fun it' s' => codeAny (model prog w) A (.compLoop (Sc2 elt t0 i0 t1 i1 ifs0 ifs1 scope pos) 1 it' acc env) R s') (notedBy (model prog w) A env fun x s' => R (.error x) s') s) :
    codeAny (model prog w) A (.compStart (Sc2 elt t0 i0 t1 i1 ifs0 ifs1 scope pos) 1 it acc env) R s := by
  refine codeAny_of_tree ?_
  show wpAny _ _ ((compStart (Sc2 elt t0 i0 t1 i1 ifs0 ifs1 scope pos) 1 it acc env).onRaise (fun x => do noteFrame x env; standAt theWindowsPlace)) _ _ s
  refine wpAny_notedAt ?_
  unfold compStart
  show wpAny _ _ (ask >>= _) _ _ s
  refine wpAny_bind (wpAny_askSetting (wpAny_ite ?_))
  split
  · first
      | exact wpAny_bind (wpAny_pure (wpAny_pure ⟨rfl, h0⟩))
      | exact wpAny_pure ⟨rfl, h0⟩
  · first
      | exact wpAny_bind (wpAny_rule (wpAny_bind (wpAny_standAt (wpAny_bind (wpAny_mono h (fun it' s' z => wpAny_pure ⟨rfl, z⟩) fun _ _ x => x)))))
      | (refine wpAny_bind (wpAny_rule ?_); show wpAny _ _ (standAt i1.pos >>= _) _ _ s; exact wpAny_bind (wpAny_standAt (wpAny_bind (wpAny_mono h (fun it' s' z => wpAny_pure ⟨rfl, z⟩) fun _ _ x => x))))
end
section
variable {X : Cx}
def tSc2 (w : World) (wi : TI) (g : TG) (tt : TT) (wi1 : TI) (g1 : TG) (tt1 : TT) (te : TE) (vs vs1 : List Nat) : TE := fun σ H Q => wi σ H fun J H1 => ∀ D, H1 D = none → ∃ W : Nat → Nat → Hp → Prop, (∃ m, W 0 m (upd H1 D (SetSO w D (fun _ => false) 0))) ∧ ∀ i m H, W i m H →
  (J.stop i H ∧ Q (.ref D) H) ∨ (J.go i H ∧ ∃ Nx : Hp → Prop, (∀ H', Nx H' → ∃ m', m' < m ∧ W (i + 1) m' H') ∧ ∀ x H', J.yld i H x H' → g x (wipe σ vs) H' fun σ2 H2 => wipe σ2 vs = wipe σ vs ∧ tt σ2 H2 fun b H3 =>
    if b = true then wi1 σ2 H3 fun J1 H4 => ∃ W1 : Nat → Nat → Hp → Prop, (∃ m, W1 0 m H4) ∧ ∀ j k H, W1 j k H →
      (J1.stop j H ∧ Nx H) ∨ (J1.go j H ∧ ∃ Nx1 : Hp → Prop, (∀ H', Nx1 H' → ∃ k', k' < k ∧ W1 (j + 1) k' H') ∧ ∀ x H', J1.yld j H x H' → g1 x (wipe σ2 vs1) H' fun σ3 H5 => wipe σ3 vs1 = wipe σ2 vs1 ∧ tt1 σ3 H5 fun b H6 =>
        if b = true then te σ3 H6 fun y H7 => ∃ (z : Str) (S : Str → Bool) (n : Nat), y = .str z ∧ H7 D = some (SetSO w D S n) ∧ n + 1 < scanBound ∧ Nx1 (upd H7 D (SetSO w D (fun v => S v || decide (v = z)) (if S z = true then n else n + 1))) else Nx1 H6)
    else Nx H3)
theorem sc2_core {pins : List (Addr × Obj)} {s : Shared} {σ : L2.St} {H : Hp} {Q : VK} {elt tg iter tg1 iter1 : Expr} {ifs ifs1 : List Expr} {scope : Scope} {own : List (Str × Nat)} {vs1 : List Nat} {pos pos' : Pos} {wi wi1 : TI} {g g1 : TG} {tt tt1 : TT} {te : TE} {use : Option (Value → Sem Unit)} {Qf : Value → Shared → Prop}
    (hc : X.calm = true) (hN : X.N.Nodup) (I : Inv X pins σ H s) (hi : PI X tg iter wi) (ok : BlkOk X.N X.env.scope scope own) (hv : ∀ i ∈ vs1, i ∈ own.map (·.2))
    (hb : ∀ (s : Shared) (H : Hp) (C : Addr) (cl : List (Str × Addr)) (fp : List Addr), PG (X.blk s H scope (compEnvC scope cl C X.env) fp) tg g ∧ PTs (X.blk s H scope (compEnvC scope cl C X.env) fp) ifs tt ∧ PI (X.blk s H scope (compEnvC scope cl C X.env) fp) tg1 iter1 wi1 ∧ PG (X.blk s H scope (compEnvC scope cl C X.env) fp) tg1 g1 ∧
      PTs (X.blk s H scope (compEnvC scope cl C X.env) fp) ifs1 tt1 ∧ PE (X.blk s H scope (compEnvC scope cl C X.env) fp) elt te)
    (hs : ∀ x, foldedSetIterable iter X.env x = pure x) (hs1 : ∀ env x, foldedSetIterable iter1 env x = pure x) (h : tSc2 X.w wi g tt wi1 g1 tt1 te (own.map (·.2)) vs1 σ H Q)
    (hRR : ∀ D C s' m H', Inv X pins σ H' s' → Q (.ref D) H' → s'.heap.Ns C m → FpOk X pins H' C → compPost (model X.prog X.w) X.A X.xe use Qf (.ref D) C (.ok .next) s') :
    wpAny (model X.prog X.w) X.A (comprehension (Sc2 elt tg iter tg1 iter1 ifs ifs1 scope pos) scope X.env pos' (newSet (.type "set")) false (eval iter X.env) use) Qf X.xe s := by
  have hfree : ∀ y ∈ scope.names, y.2 = .free → ∃ c, X.env.cells.lookup y.1 = some c := fun y hy e => (ok.free y hy e).elim (fun k => I.ok.has _ (.inl k)) fun k => I.ok.has _ (.inr k)
  refine wpAny_comprehension_free (use := use) rfl hs (closure_ok hfree) ok.kind (fun y hy e => by rw [ok.uniq y hy, e]) (thn (hi.run pins s σ H _ I h) fun xv s1 hx => thn hx fun itv s2 h2 => ?_)
  obtain ⟨it, fp, tn, J, H2, e, I2, T, st2, f2, q⟩ := h2
  subst e
  refine PpSet.newSet_ok (newEnv_comp ?_)
  generalize hD : s2.heap.objs.size = D
  have hDn : H2 D = none := I2.hok.fresh (Nat.le_of_eq hD)
  obtain ⟨W, ⟨m0, w0⟩, turn⟩ := q D hDn
  generalize hs3 : ({ s2 with heap := s2.heap.push { cls := .type "set", dict := none, data := .set #[] 0 (.fresh 0 0 (!X.w.params.followText "set-order")) } } : Shared) = s3
  have I3 : Inv X pins σ (upd H2 D (SetSO X.w D (fun _ => false) 0)) s3 := by
    rw [← hs3]
    refine I2.laid (t' := s2.toks) (fun b o e => Heap.get?_push_of_some _ e) (Nat.le_of_eq hD) ?_
    rw [← hD]
    exact setSO_new (new_at (Heap.get?_push_size _ rfl))
  have h3 : s3.heap = s2.heap.push { cls := .type "set", dict := none, data := .set #[] 0 (.fresh 0 0 (!X.w.params.followText "set-order")) } := by rw [← hs3]
  have f3 : ∀ b ∈ fp, FpOk X pins (upd H2 D (SetSO X.w D (fun _ => false) 0)) b ∧ b < s3.heap.objs.size := fun b hb => by
    obtain ⟨o, e, _⟩ := T.obj _ _ st2 b hb
    have lt := Heap.lt_size e
    refine ⟨⟨?_, (f2 b hb).2⟩, by rw [h3, Heap.size_push]; exact Nat.lt_succ_of_lt lt⟩
    rw [upd_ne (by rw [← hD]; exact Nat.ne_of_lt lt)]
    exact (f2 b hb).1
  have st3 : tn 0 s3.heap := T.keep _ _ _ st2 fun b _ o e => by rw [h3]; exact Heap.get?_push_of_some _ e
  have I4 := block_start I3 ok hN f3
  have pb := hb s3 (upd H2 D (SetSO X.w D (fun _ => false) 0)) s3.heap.objs.size (cellsFrom (s3.heap.objs.size + 1) scope.names (cloFrom X.env.cells scope.names [])) fp
  show codeAny _ _ (.compStart (Sc2 elt tg iter tg1 iter1 ifs ifs1 scope pos) 0 (.ref it) (.ref D) (compEnvC scope (cellsFrom (s3.heap.objs.size + 1) scope.names (cloFrom X.env.cells scope.names [])) s3.heap.objs.size X.env)) (compPost (model X.prog X.w) X.A X.xe use Qf (.ref D) s3.heap.objs.size) { s3 with heap := pushCells (s3.heap.push { cls := .type "dict", data := .dict #[] }) scope.names }
  have nfp : ∀ b ∈ fp, (upd H2 D (SetSO X.w D (fun _ => false) 0)) b = none := fun b hb => (f3 b hb).1.1
  generalize hce : compEnvC scope (cellsFrom (s3.heap.objs.size + 1) scope.names (cloFrom X.env.cells scope.names [])) s3.heap.objs.size X.env = ce at I4 pb ⊢
  have cL : ce.locals = s3.heap.objs.size := by subst hce; rfl
  generalize hH3 : upd H2 D (SetSO X.w D (fun _ => false) 0) = H3 at I3 I4 pb w0 nfp f3
  obtain ⟨pg, pt, pi1, pg1, pt1, pe⟩ := pb
  generalize hs4 : ({ s3 with heap := pushCells (s3.heap.push { cls := .type "dict", data := .dict #[] }) scope.names } : Shared) = s4 at I4 ⊢
  have st4 : tn 0 s4.heap := T.keep _ _ _ st3 fun b _ o e => by rw [← hs4]; exact pushCells_keeps _ _ _ _ (Heap.get?_push_of_some _ e)
  let Y : Cx := X.blk s3 H3 scope ce fp
  have stat : ∀ {σ' : L2.St} {H' : Hp} {s' : Shared}, Inv Y [] σ' H' s' → (∀ b ∈ fp, H' b = none) → ∀ b ∈ fp, FpOk Y [] H' b := fun {σ' H' s'} I' hn b hb =>
    ⟨hn b hb, (I'.ok.exf b hb).1, I'.ok.exfs b hb, .inl hb, fun x c e => (I'.ok.exf b hb).2 x c e, fun p hp => absurd (show p ∈ ([] : List (Addr × Obj)) ++ [] from hp) (by simp)⟩
  let σw := wipe σ (own.map (·.2))
  have loop : codeAny (model X.prog X.w) X.A (.compLoop (Sc2 elt tg iter tg1 iter1 ifs ifs1 scope pos) 0 (.ref it) (.ref D) ce) (compPost (model X.prog X.w) X.A X.xe use Qf (.ref D) s3.heap.objs.size) s4 := by
    refine loop_out (hs1 ce) (fun n s' => ∃ i H', Inv Y [] σw H' s' ∧ tn i s'.heap ∧ (∀ b ∈ fp, H' b = none) ∧ W i n H') ?_ m0 ⟨0, H3, I4, st4, nfp, w0⟩
    rintro n s5 ⟨i, H5, I5, st5, n5, w5⟩
    rcases turn i n H5 w5 with ⟨stop, qq⟩ | ⟨go, Nx, hNx, step⟩
    · refine thnF (T.done Y rfl rfl rfl hc i [] s5 _ H5 (fun _ _ => False) I5 (stat I5 n5) st5 stop) fun r s6 ⟨hr, I6⟩ => ?_
      subst hr
      have I7 : Inv X pins σ H5 s6 := I3.call' (ch := fp) I6.os I6.base I6.hok I6.bare fun b hb => let z := (f3 b hb).1; ⟨z.2.2.2.1, z.2.1, z.2.2.2.2.1, z.2.2.2.2.2⟩
      have nC : H5 ce.locals = none := I6.free
      obtain ⟨m, hn, _⟩ := I6.loc
      have hn : s6.heap.Ns ce.locals m := hn
      rw [cL] at hn nC
      exact hRR D s3.heap.objs.size s6 m H5 I7 qq hn (I3.fpOk (Nat.le_refl _) nC)
    · refine thnF (T.item Y rfl rfl rfl hc i [] s5 _ H5 (fun _ _ => False) I5 (stat I5 n5) st5 go) fun r s6 ⟨u, hr, h6⟩ => ?_
      subst hr
      refine thnF h6 fun _ s7 ⟨x, H7, I7, r7, y7, st7, n7⟩ => ?_
      refine thnF (pg.run _ s7 _ H7 x u _ (I7.pinned (stat I7 n7) (T.obj _ _ st7)) r7 (step x H7 y7)) fun _ s8 ⟨σ8, H8, I8, hw8, q8⟩ => ?_
      refine thnF (pt.run _ s8 σ8 H8 _ I8 q8) fun b s9 ⟨H9, I9, q9⟩ => ?_
      have fin : ∀ {σ9 : L2.St} {s' : Shared} {H' : Hp}, Inv Y ([] ++ pinsAt fp s7.heap) σ9 H' s' → σw.length = σ9.length → (∀ (j : Nat) v, σw[j]? = some (some v) → σ9[j]? = some (some v)) → Nx H' → ∃ m, m < n ∧ ∃ i H', Inv Y [] σw H' s' ∧ tn i s'.heap ∧ (∀ b ∈ fp, H' b = none) ∧ W i m H' := fun {σ9 s' H'} I' hl hk nx => by
        obtain ⟨m', hm, w'⟩ := hNx H' nx
        have pin' : ∀ b ∈ fp, ∀ o, s7.heap.get? b = some o → s'.heap.get? b = some o ∧ H' b = none := fun b hb o e =>
          let z := I'.pin (b, o) (List.mem_append_right _ (List.mem_append_right _ (mem_pinsAt hb e)))
          ⟨z.1, z.2.1⟩
        refine ⟨m', hm, i + 1, H', (I'.unpinned (pins := [])).weak hl hk, T.keep _ _ _ st7 fun b hb o e => (pin' b hb o e).1, fun b hb => ?_, w'⟩
        obtain ⟨o, e, _⟩ := T.obj _ _ st7 b hb
        exact (pin' b hb o e).2
      have hl8 : σw.length = σ8.length := by rw [show σw = wipe σ8 (own.map (·.2)) from hw8.symm, wipe_length]
      have hk8 : ∀ (j : Nat) v, σw[j]? = some (some v) → σ8[j]? = some (some v) := fun j v e => by
        rw [show σw = wipe σ8 (own.map (·.2)) from hw8.symm] at e
        exact (wipe_some e).1
      have hk9 : ∀ (j : Nat) v, σw[j]? = some (some v) → (wipe σ8 vs1)[j]? = some (some v) := fun j v e => by
        rw [show σw = wipe σ8 (own.map (·.2)) from hw8.symm] at e
        obtain ⟨e1, e2⟩ := wipe_some e
        rw [wipe_out fun z => e2 (hv j z)]
        exact e1
      cases b with
      | false =>
        simp only [Bool.false_eq_true, if_false] at q9 ⊢
        exact fin I9 hl8 hk8 q9
      | true =>
        simp only [if_true] at q9 ⊢
        refine thnF (pi1.run _ s9 σ8 H9 _ I9 q9) fun xv s10 hx => thnF hx fun itv s11 h11 => ?_
        obtain ⟨it1, fp1, tn1, J1, H11, e1, I11, T1, st11, f11, W1, ⟨m1, w1⟩, turn1⟩ := h11
        subst e1
        have stat1 : ∀ {H' : Hp}, (∀ b ∈ fp1, H' b = none) → ∀ b ∈ fp1, FpOk Y ([] ++ pinsAt fp s7.heap) H' b := fun hn b hb => ⟨hn b hb, (f11 b hb).2⟩
        have loop1 : codeAny (model X.prog X.w) X.A (.compLoop (Sc2 elt tg iter tg1 iter1 ifs ifs1 scope pos) 1 (.ref it1) (.ref D) ce)
            (fun r s' => match r with
              | .ok _ => ∃ m, m < n ∧ ∃ i H', Inv Y [] σw H' s' ∧ tn i s'.heap ∧ (∀ b ∈ fp, H' b = none) ∧ W i m H'
              | .error _ => False) s11 := by
          refine loop_in (fun k s' => ∃ j H', Inv Y ([] ++ pinsAt fp s7.heap) (wipe σ8 vs1) H' s' ∧ tn1 j s'.heap ∧ (∀ b ∈ fp1, H' b = none) ∧ W1 j k H') ?_ m1 ⟨0, H11, I11.weak (wipe_length _ _) (fun j v e => (wipe_some e).1), st11, fun b hb => (f11 b hb).1, w1⟩
          rintro k s12 ⟨j, H12, I12, st12, n12, w12⟩
          rcases turn1 j k H12 w12 with ⟨stop1, nx1⟩ | ⟨go1, Nx1, hNx1, step1⟩
          · refine thnF (T1.done Y rfl rfl rfl hc j _ s12 (wipe σ8 vs1) H12 (fun _ _ => False) I12 (stat1 n12) st12 stop1) fun r s13 ⟨hr, I13⟩ => ?_
            subst hr
            exact fin I13 (hl8.trans (wipe_length σ8 vs1).symm) hk9 nx1
          · refine thnF (T1.item Y rfl rfl rfl hc j _ s12 (wipe σ8 vs1) H12 (fun _ _ => False) I12 (stat1 n12) st12 go1) fun r s13 ⟨u1, hr, h13⟩ => ?_
            subst hr
            refine thnF h13 fun _ s14 ⟨x1, H14, I14, r14, y14, st14, n14⟩ => ?_
            refine thnF (pg1.run _ s14 (wipe σ8 vs1) H14 x1 u1 _ (I14.pinned (stat1 n14) (T1.obj _ _ st14)) r14 (step1 x1 H14 y14)) fun _ s15 ⟨σ15, H15, I15, hw15, q15⟩ => ?_
            refine thnF (pt1.run _ s15 σ15 H15 _ I15 q15) fun b1 s16 ⟨H16, I16, q16⟩ => ?_
            have fin1 : ∀ {s' : Shared} {H' : Hp}, Inv Y (([] ++ pinsAt fp s7.heap) ++ pinsAt fp1 s14.heap) σ15 H' s' → Nx1 H' → ∃ m, m < k ∧ ∃ j H', Inv Y ([] ++ pinsAt fp s7.heap) (wipe σ8 vs1) H' s' ∧ tn1 j s'.heap ∧ (∀ b ∈ fp1, H' b = none) ∧ W1 j m H' := fun {s' H'} I' nx => by
              obtain ⟨m', hm, w'⟩ := hNx1 H' nx
              have pin' : ∀ b ∈ fp1, ∀ o, s14.heap.get? b = some o → s'.heap.get? b = some o ∧ H' b = none := fun b hb o e =>
                let z := I'.pin (b, o) (List.mem_append_right _ (List.mem_append_right _ (mem_pinsAt hb e)))
                ⟨z.1, z.2.1⟩
              refine ⟨m', hm, j + 1, H', I'.unpinned.weak (by rw [← hw15, wipe_length]) (fun j v e => by rw [← hw15] at e; exact (wipe_some e).1), T1.keep _ _ _ st14 fun b hb o e => (pin' b hb o e).1, fun b hb => ?_, w'⟩
              obtain ⟨o, e, _⟩ := T1.obj _ _ st14 b hb
              exact (pin' b hb o e).2
            cases b1 with
            | false =>
              simp only [Bool.false_eq_true, if_false] at q16 ⊢
              exact fin1 I16 q16
            | true =>
              simp only [if_true] at q16 ⊢
              refine thnF (pe.run _ s16 σ15 H16 _ I16 q16) fun zv s17 ⟨yv, H17, I17, r17, z, S0, n0, ey, hD17, room, nx⟩ => ?_
              subst ey
              obtain ⟨u, rfl⟩ : ∃ u, zv = Value.str z u := r17
              exact addS_ok (X := Y) I17 hD17 room fun s18 I18 => fin1 I18 nx
        exact start_in loop1 (T1.self X.A 0 _ _ _ st11 loop1)
  exact PpSet.codeAny_compStart_set loop (T.self X.A 0 _ _ _ st4 loop)
theorem pe_sc2 {elt tg iter tg1 iter1 : Expr} {ifs ifs1 : List Expr} {scope : Scope} {own : List (Str × Nat)} {vs1 : List Nat} {pos : Pos} {wi wi1 : TI} {g g1 : TG} {tt tt1 : TT} {te : TE} (hc : X.calm = true) (hN : X.N.Nodup) (hi : PI X tg iter wi) (ok : BlkOk X.N X.env.scope scope own) (hv : ∀ i ∈ vs1, i ∈ own.map (·.2))
    (hb : ∀ (s : Shared) (H : Hp) (C : Addr) (cl : List (Str × Addr)) (fp : List Addr), PG (X.blk s H scope (compEnvC scope cl C X.env) fp) tg g ∧ PTs (X.blk s H scope (compEnvC scope cl C X.env) fp) ifs tt ∧ PI (X.blk s H scope (compEnvC scope cl C X.env) fp) tg1 iter1 wi1 ∧ PG (X.blk s H scope (compEnvC scope cl C X.env) fp) tg1 g1 ∧
      PTs (X.blk s H scope (compEnvC scope cl C X.env) fp) ifs1 tt1 ∧ PE (X.blk s H scope (compEnvC scope cl C X.env) fp) elt te)
    (hs : ∀ x, foldedSetIterable iter X.env x = pure x := by intro _; rfl) (hs1 : ∀ env x, foldedSetIterable iter1 env x = pure x := by intro _ _; rfl) :
    PE X (.SetComp elt [⟨tg, iter, ifs, 0⟩, ⟨tg1, iter1, ifs1, 0⟩] scope pos) (tSc2 X.w wi g tt wi1 g1 tt1 te (own.map (·.2)) vs1) := by
  refine ⟨fun pins s σ H Q I h => ?_⟩
  rw [PpSet.eval_SetComp]
  refine sc2_core hc hN I hi ok hv hb hs hs1 h fun D C s' m H' I' q hn f => ⟨m, hn, fun h'' sb => ?_⟩
  obtain ⟨f0, f1, f2, f3, f4, f5⟩ := f
  exact ⟨.ref D, H', I'.turned (t' := s'.toks) (fun b o hb e => (sb.2 b hb).trans e) f0 f1 f3 f4 f5, rfl, q⟩
end
end StS

/-! ### the cheapest places -/
/-- how far back the place ahead of s may lie -/
structure BackAt (rs : List (Int × Int)) (s b : Int) : Prop where
  lo : 0 ≤ b
  all : ∀ r ∈ rs, r.2 + 2 ≤ s → r.1 + 1 ≤ b
  one : b = 0 ∨ ∃ r ∈ rs, r.2 + 2 ≤ s ∧ b = r.1 + 1
theorem BackAt.lt {rs : List (Int × Int)} {s b : Int} (h : BackAt rs s b) (hr : ∀ r ∈ rs, r.1 ≤ r.2) (hs : 1 ≤ s) : b < s := by
  rcases h.one with z | ⟨r, h1, h2, h3⟩
  · omega
  · have := hr r h1
    omega
/-- places from the last to the first, each no further back than may be -/
def Way (rs : List (Int × Int)) : Int → List Int → Prop
  | s, [] => BackAt rs s 0
  | s, x :: l => x + 1 < s ∧ 0 ≤ x ∧ (∃ b, BackAt rs s b ∧ b ≤ x + 1) ∧ Way rs (x + 1) l
theorem BackAt.eq {rs : List (Int × Int)} {s b b' : Int} (h : BackAt rs s b) (h' : BackAt rs s b') : b = b' := by
  have a1 : b ≤ b' := by
    rcases h.one with z | ⟨r, h1, h2, h3⟩
    · have := h'.lo; omega
    · have := h'.all r h1 h2; omega
  have a2 : b' ≤ b := by
    rcases h'.one with z | ⟨r, h1, h2, h3⟩
    · have := h.lo; omega
    · have := h.all r h1 h2; omega
  omega
/-- each run that ends ahead of s has one of l -/
def HitB (rs : List (Int × Int)) (s : Int) (l : List Int) : Prop := ∀ r ∈ rs, r.2 + 2 ≤ s → ∃ x ∈ l, r.1 ≤ x ∧ x ≤ r.2
theorem Way.hit {rs : List (Int × Int)} : ∀ {l : List Int} {s : Int}, (∀ r ∈ rs, 0 ≤ r.1) → Way rs s l → HitB rs s l
  | [], s, h0, h => fun r hr e => by
    have := h.all r hr e
    have := h0 r hr
    omega
  | x :: l, s, h0, h => fun r hr e => by
    obtain ⟨h1, h2, ⟨b, hb, hx⟩, h4⟩ := h
    by_cases c : r.2 + 2 ≤ x + 1
    · obtain ⟨y, hy, e1⟩ := Way.hit h0 h4 r hr c
      exact ⟨y, List.mem_cons_of_mem _ hy, e1⟩
    · have := hb.all r hr e
      exact ⟨x, List.mem_cons_self .., by omega, by omega⟩
theorem back_ex (rs : List (Int × Int)) (h0 : ∀ r ∈ rs, 0 ≤ r.1) (s : Int) : ∃ b, BackAt rs s b := by
  induction rs with
  | nil => exact ⟨0, Int.le_refl _, (fun _ h => nomatch h), .inl rfl⟩
  | cons r rs ih =>
    obtain ⟨b, hb⟩ := ih fun x hx => h0 x (List.mem_cons_of_mem _ hx)
    have hr0 := h0 r (List.mem_cons_self ..)
    by_cases c : r.2 + 2 ≤ s ∧ b < r.1 + 1
    · refine ⟨r.1 + 1, by omega, fun x hx e => ?_, .inr ⟨r, List.mem_cons_self .., c.1, rfl⟩⟩
      rcases List.mem_cons.mp hx with z | z
      · rw [z]; omega
      · have := hb.all x z e; omega
    · refine ⟨b, hb.lo, fun x hx e => ?_, ?_⟩
      · rcases List.mem_cons.mp hx with z | z
        · rw [z] at e ⊢; omega
        · exact hb.all x z e
      · rcases hb.one with z | ⟨x, h1, h2, h3⟩
        · exact .inl z
        · exact .inr ⟨x, List.mem_cons_of_mem _ h1, h2, h3⟩
/-- falling, all within -/
def Fall : Int → List Int → Prop
  | _, [] => True
  | s, x :: l => x + 1 < s ∧ 0 ≤ x ∧ Fall (x + 1) l
theorem Fall.lt : ∀ {l : List Int} {s : Int}, Fall s l → ∀ x ∈ l, x + 1 < s
  | y :: l, s, h, x, hx => by
    rcases List.mem_cons.mp hx with z | z
    · rw [z]; exact h.1
    · have := Fall.lt h.2.2 x z
      have := h.1
      omega
theorem Way.fall {rs : List (Int × Int)} : ∀ {l : List Int} {s : Int}, Way rs s l → Fall s l
  | [], _, _ => trivial
  | _ :: _, _, h => ⟨h.1, h.2.1, Way.fall h.2.2.2⟩
theorem Way.of {rs : List (Int × Int)} (h0 : ∀ r ∈ rs, 0 ≤ r.1) : ∀ {l : List Int} {s : Int}, Fall s l → HitB rs s l → Way rs s l
  | [], s, _, h => ⟨Int.le_refl _, fun r hr e => (let ⟨_, hx, _⟩ := h r hr e; nomatch hx), .inl rfl⟩
  | x :: l, s, f, h => by
    obtain ⟨b, hb⟩ := back_ex rs h0 s
    refine ⟨f.1, f.2.1, ⟨b, hb, ?_⟩, Way.of h0 f.2.2 fun r hr e => ?_⟩
    · rcases hb.one with z | ⟨r, h1, h2, h3⟩
      · have := f.2.1; omega
      · obtain ⟨y, hy, e1, e2⟩ := h r h1 h2
        rcases List.mem_cons.mp hy with z | z
        · rw [z] at e1; omega
        · have := Fall.lt f.2.2 y z; omega
    · obtain ⟨y, hy, e1, e2⟩ := h r hr (by have := f.1; omega)
      rcases List.mem_cons.mp hy with z | z
      · rw [z] at e2; omega
      · exact ⟨y, z, e1, e2⟩
/-- what places cost -/
def costF (pr : Int → Int) (l : List Int) : Int := (l.map pr).sum
/-- the least costs up to the k-th spot: c of a spot with its own price, back where it comes from -/
structure Costs (rs : List (Int × Int)) (pr : Int → Int) (k : Int) (c back : Int → Int) : Prop where
  zero : c 0 = 0
  from_ : ∀ s, 1 ≤ s → s ≤ k → 0 ≤ back s ∧ back s < s ∧ (∃ b, BackAt rs s b ∧ b ≤ back s) ∧ c s = c (back s) + pr (s - 1)
  least : ∀ s, 1 ≤ s → s ≤ k → ∀ b o, BackAt rs s b → b ≤ o → o < s → c s ≤ c o + pr (s - 1)
theorem Costs.low {rs : List (Int × Int)} {pr : Int → Int} {k : Int} {c back : Int → Int} (C : Costs rs pr k c back) : ∀ {l : List Int} {s : Int}, 1 ≤ s → s ≤ k → Way rs s l → c s ≤ costF pr l + pr (s - 1)
  | [], s, h1, h2, h => by
    have := C.least s h1 h2 0 0 h (Int.le_refl _) (by omega)
    have := C.zero
    show c s ≤ 0 + _
    omega
  | x :: l, s, h1, h2, h => by
    obtain ⟨e1, e2, ⟨b, hb, hx⟩, h4⟩ := h
    have a1 := C.least s h1 h2 b (x + 1) hb hx e1
    have a2 := C.low (l := l) (s := x + 1) (by omega) (by omega) h4
    have e : x + 1 - 1 = x := by omega
    rw [e] at a2
    show c s ≤ (pr x + costF pr l) + _
    omega
/-- the way back from a spot -/
theorem Costs.way {rs : List (Int × Int)} {pr : Int → Int} {k : Int} {c back : Int → Int} (C : Costs rs pr k c back) {l : List Int} {s : Int} (h1 : 1 ≤ s) (h2 : s ≤ k) (h : if back s = 0 then l = [] else ∃ l', l = (back s - 1) :: l' ∧ Way rs (back s) l' ∧ costF pr l' + pr (back s - 1) = c (back s)) : Way rs s l ∧ costF pr l + pr (s - 1) = c s := by
  obtain ⟨f1, f2, ⟨b, hb, f3⟩, f4⟩ := C.from_ s h1 h2
  split at h
  · next z =>
    subst h
    rw [z] at f3 f4
    have b0 : b = 0 := by have := hb.lo; omega
    subst b0
    refine ⟨hb, ?_⟩
    have := C.zero
    show 0 + _ = _
    omega
  · next z =>
    obtain ⟨l', rfl, hw, hc⟩ := h
    refine ⟨⟨by omega, by omega, ⟨b, hb, by omega⟩, by rw [show back s - 1 + 1 = back s by omega]; exact hw⟩, ?_⟩
    show (pr (back s - 1) + costF pr l') + _ = _
    omega

/-! ### rows that are lists or tuples -/
def IntsQ (H : Hp) (a : Addr) (ns : List Int) : Prop := SqH H a (ns.map V.int)
def LsQ (H : Hp) (a : Addr) (rs : List (Int × Int)) : Prop := ∃ us, SqH H a us ∧ Prs H us rs
theorem SqH.sq {K : PySem.W.Frag} {H : Hp} {a : Addr} {xs : List V} (h : SqH H a xs) : Sq K H a xs := h.elim (fun e => .inl (SqL.of e)) (fun e => .inr (.inl (.inl e)))
theorem SqH.lq {K : PySem.W.Frag} {H : Hp} {a : Addr} {xs : List V} (h : SqH H a xs) : SqL K H a xs ∨ SqT K H a xs := h.elim (fun e => .inl (SqL.of e)) (fun e => .inr (.inl (.inl e)))
theorem SqH.same {H H' : Hp} {a : Addr} {xs : List V} (h : SqH H a xs) (s : Same H H') : SqH H' a xs := h.elim (fun e => .inl (s _ _ e)) (fun e => .inr (s _ _ e))
theorem SqH.kp {H H' : Hp} {a d c : Addr} {xs : List V} (h : SqH H a xs) (h1 : a ≠ d) (h2 : a ≠ c) (k : Kp d c H H') : SqH H' a xs := h.elim (fun e => .inl (k _ _ h1 h2 e)) (fun e => .inr (k _ _ h1 h2 e))
theorem LsQ.same {H H' : Hp} {a : Addr} {rs : List (Int × Int)} (h : LsQ H a rs) (s : Same H H') : LsQ H' a rs := by
  obtain ⟨us, e, p⟩ := h
  exact ⟨us, e.same s, p.1, fun i r er => let ⟨x, h1, h2⟩ := p.2 i r er; ⟨x, h1, s _ _ h2⟩⟩
theorem SqH.ql {K : PySem.W.Frag} {H : Hp} {a : Addr} {xs : List V} (h : SqH H a xs) : SqT K H a xs ∨ SqL K H a xs := h.elim (fun e => .inr (SqL.of e)) (fun e => .inl (.inl (.inl e)))

/-! ### things: data that is tracked, none of it the draws' own list -/
inductive Thg (c : List Addr) (H : Hp) : V → PyData → Prop
  | non : Thg c H .non .none
  | bl (b : Bool) : Thg c H (.bl b) (.bool b)
  | int (i : Int) : Thg c H (.int i) (.int i)
  | str (x : Str) : Thg c H (.str x) (.str x)
  | lst {a : Addr} {xs : List V} {ds : List PyData} : H a = some (.lst xs) → a ∉ c → xs.length = ds.length → (∀ (i : Nat) x d, xs[i]? = some x → ds[i]? = some d → Thg c H x d) → Thg c H (.ref a) (.list ds)
  | tup {a : Addr} {xs : List V} {ds : List PyData} : H a = some (.tup xs) → xs.length = ds.length → (∀ (i : Nat) x d, xs[i]? = some x → ds[i]? = some d → Thg c H x d) → Thg c H (.ref a) (.tuple ds)
/-- a row of things -/
def ThgL (c : List Addr) (H : Hp) (xs : List V) (ds : List PyData) : Prop := xs.length = ds.length ∧ ∀ (i : Nat) x d, xs[i]? = some x → ds[i]? = some d → Thg c H x d
theorem Thg.ext {c : List Addr} {H H' : Hp} {v : V} {d : PyData} (h : Thg c H v d) (kl : ∀ a xs, a ∉ c → H a = some (.lst xs) → H' a = some (.lst xs)) (kt : ∀ a xs, H a = some (.tup xs) → H' a = some (.tup xs)) : Thg c H' v d := by
  induction h with
  | non => exact .non
  | bl b => exact .bl b
  | int i => exact .int i
  | str x => exact .str x
  | lst e n l _ ih => exact .lst (kl _ _ n e) n l ih
  | tup e l _ ih => exact .tup (kt _ _ e) l ih
theorem Thg.same {c : List Addr} {H H' : Hp} {v : V} {d : PyData} (h : Thg c H v d) (s : Same H H') : Thg c H' v d := h.ext (fun _ _ _ e => s _ _ e) fun _ _ e => s _ _ e
theorem Thg.noTab {c : List Addr} {H H' : Hp} {v : V} {d : PyData} (h : Thg c H v d) (n : GX.NoTab H H') : Thg c H' v d := h.ext (fun _ _ _ e => n.lst e) fun _ _ e => n.tup e
theorem Thg.kp {c d0 : Addr} {cs : List Addr} {H H' : Hp} {t : Int} {v : V} {d : PyData} (h : Thg cs H v d) (S : StAt H d0 c t) (k : Kp d0 c H H') (m : c ∈ cs) : Thg cs H' v d :=
  h.ext (fun a xs n e => k a _ (ne_of e S.dict (fun z => nomatch z)) (fun z => n (z ▸ m)) e) fun a xs e => by
    obtain ⟨cs, ec, _⟩ := S.cells
    exact k a _ (ne_of e S.dict (fun z => nomatch z)) (ne_of e ec (fun z => nomatch z)) e
theorem ThgL.same {c : List Addr} {H H' : Hp} {xs : List V} {ds : List PyData} (h : ThgL c H xs ds) (s : Same H H') : ThgL c H' xs ds := ⟨h.1, fun i x d e1 e2 => (h.2 i x d e1 e2).same s⟩
theorem ThgL.noTab {c : List Addr} {H H' : Hp} {xs : List V} {ds : List PyData} (h : ThgL c H xs ds) (s : GX.NoTab H H') : ThgL c H' xs ds := ⟨h.1, fun i x d e1 e2 => (h.2 i x d e1 e2).noTab s⟩
theorem ThgL.kp {c d0 : Addr} {cs : List Addr} {H H' : Hp} {t : Int} {xs : List V} {ds : List PyData} (h : ThgL cs H xs ds) (S : StAt H d0 c t) (k : Kp d0 c H H') (m : c ∈ cs) : ThgL cs H' xs ds := ⟨h.1, fun i x d e1 e2 => (h.2 i x d e1 e2).kp S k m⟩
theorem ThgL.nil {c : List Addr} {H : Hp} : ThgL c H [] [] := ⟨rfl, fun i x d e => by simp at e⟩
theorem ThgL.append {c : List Addr} {H : Hp} {xs ys : List V} {ds es : List PyData} (h : ThgL c H xs ds) (h' : ThgL c H ys es) : ThgL c H (xs ++ ys) (ds ++ es) := by
  refine ⟨by rw [List.length_append, List.length_append, h.1, h'.1], fun i x d e1 e2 => ?_⟩
  by_cases c1 : i < xs.length
  · rw [List.getElem?_append_left c1] at e1
    rw [List.getElem?_append_left (by rw [← h.1]; exact c1)] at e2
    exact h.2 i x d e1 e2
  · rw [List.getElem?_append_right (by omega)] at e1
    rw [List.getElem?_append_right (by rw [← h.1]; omega), ← h.1] at e2
    exact h'.2 _ x d e1 e2
theorem ThgL.one {c : List Addr} {H : Hp} {x : V} {d : PyData} (h : Thg c H x d) : ThgL c H [x] [d] := ⟨rfl, fun i y e e1 e2 => by
  cases i with
  | zero => cases e1; cases e2; exact h
  | succ i => simp at e1⟩
theorem ThgL.cons {c : List Addr} {H : Hp} {x : V} {d : PyData} {xs : List V} {ds : List PyData} (h : Thg c H x d) (hs : ThgL c H xs ds) : ThgL c H (x :: xs) (d :: ds) := (ThgL.one h).append hs
theorem ThgL.take {c : List Addr} {H : Hp} {xs : List V} {ds : List PyData} (h : ThgL c H xs ds) (n : Nat) : ThgL c H (xs.take n) (ds.take n) := by
  refine ⟨by rw [List.length_take, List.length_take, h.1], fun i x d e1 e2 => ?_⟩
  rw [List.getElem?_take] at e1 e2
  split at e1
  · rename_i c1
    rw [if_pos c1] at e2
    exact h.2 i x d e1 e2
  · cases e1
theorem ThgL.drop {c : List Addr} {H : Hp} {xs : List V} {ds : List PyData} (h : ThgL c H xs ds) (n : Nat) : ThgL c H (xs.drop n) (ds.drop n) := by
  refine ⟨by rw [List.length_drop, List.length_drop, h.1], fun i x d e1 e2 => ?_⟩
  rw [List.getElem?_drop] at e1 e2
  exact h.2 _ x d e1 e2
theorem ThgL.reverse {c : List Addr} {H : Hp} {xs : List V} {ds : List PyData} (h : ThgL c H xs ds) : ThgL c H xs.reverse ds.reverse := by
  refine ⟨by rw [List.length_reverse, List.length_reverse, h.1], fun i x d e1 e2 => ?_⟩
  have l1 := (List.getElem?_eq_some_iff.mp e1).1
  rw [List.length_reverse] at l1
  rw [List.getElem?_reverse l1] at e1
  rw [List.getElem?_reverse (by rw [← h.1]; exact l1), ← h.1] at e2
  exact h.2 _ x d e1 e2
theorem ThgL.set {c : List Addr} {H : Hp} {xs : List V} {ds : List PyData} {x : V} {d : PyData} (h : ThgL c H xs ds) (n : Nat) (hx : Thg c H x d) : ThgL c H (xs.set n x) (ds.set n d) := by
  refine ⟨by rw [List.length_set, List.length_set, h.1], fun i y e e1 e2 => ?_⟩
  rw [List.getElem?_set] at e1 e2
  split at e1
  · rename_i c1
    rw [if_pos c1] at e2
    split at e1
    · cases e1
      split at e2
      · cases e2; exact hx
      · cases e2
    · cases e1
  · rename_i c1
    rw [if_neg c1] at e2
    exact h.2 i y e e1 e2
theorem Thg.dp {K : PySem.W.Frag} {c : List Addr} {H : Hp} {v : V} {d : PyData} (h : Thg c H v d) : Dp K H v d := by
  have all : ∀ (xs : List V) (ds : List PyData), xs.length = ds.length → (∀ (i : Nat) x d, xs[i]? = some x → ds[i]? = some d → Dp K H x d) → DpAll K H xs ds := by
    intro xs
    induction xs with
    | nil => intro ds l _; cases ds with | nil => exact .nil | cons => cases l
    | cons x xs ih => intro ds l k; cases ds with | nil => cases l | cons e es => exact .cons (k 0 x e rfl rfl) (ih es (Nat.succ.inj l) fun i y f e1 e2 => k (i + 1) y f e1 e2)
  induction h with
  | non => exact .non
  | bl b => exact .bl b
  | int i => exact .int i
  | str x => exact .str x
  | lst e n l _ ih => exact .lst (SqL.of e) (all _ _ l ih)
  | tup e l _ ih => exact .tup (.inl (.inl e)) (all _ _ l ih)
/-- the parts of a list or a tuple -/
def rowOf : PyData → Option (List PyData)
  | .list ds => some ds
  | .tuple ds => some ds
  | _ => none
theorem Thg.row {c : List Addr} {H : Hp} {v : V} {d : PyData} {ds : List PyData} (h : Thg c H v d) (e : rowOf d = some ds) : ∃ a xs, v = .ref a ∧ SqH H a xs ∧ ThgL c H xs ds := by
  cases h with
  | non => cases e
  | bl b => cases e
  | int i => cases e
  | str x => cases e
  | lst e1 n l k => cases e; exact ⟨_, _, rfl, .inl e1, l, k⟩
  | tup e1 l k => cases e; exact ⟨_, _, rfl, .inr e1, l, k⟩
def isNumD : PyData → Bool
  | .int i => decide (0 ≤ i)
  | _ => false
def intD : PyData → Int
  | .int i => i
  | _ => 0
/-- the numbers of a row of numbers from 0 up -/
def numsOf (d : PyData) : Option (List Int) := match rowOf d with
  | some ds => if ds.all isNumD then some (ds.map intD) else none
  | none => none
theorem isNumD_int {d : PyData} (h : isNumD d = true) : ∃ i, d = .int i ∧ 0 ≤ i := by
  cases d <;> first | cases h | exact ⟨_, rfl, of_decide_eq_true h⟩
theorem nums_of {c : List Addr} {H : Hp} {v : V} {d : PyData} {ns : List Int} (h : Thg c H v d) (e : numsOf d = some ns) : ∃ a, v = .ref a ∧ IntsQ H a ns ∧ ∀ n ∈ ns, 0 ≤ n := by
  unfold numsOf at e
  cases hr : rowOf d with
  | none => rw [hr] at e; cases e
  | some ds =>
    rw [hr] at e
    by_cases c1 : ds.all isNumD = true
    · have e : (if ds.all isNumD then some (ds.map intD) else none) = some ns := e
      rw [if_pos c1] at e
      cases e
      obtain ⟨a, xs, rfl, hs, hl⟩ := h.row hr
      rw [List.all_eq_true] at c1
      have ex : xs = (ds.map intD).map V.int := by
        refine List.ext_getElem? fun i => ?_
        rw [List.getElem?_map, List.getElem?_map]
        cases hd : ds[i]? with
        | none =>
          rw [List.getElem?_eq_none_iff] at hd
          rw [List.getElem?_eq_none (by rw [hl.1]; exact hd)]
          rfl
        | some d =>
          have lt := (List.getElem?_eq_some_iff.mp hd).1
          have hx : xs[i]? = some (xs[i]'(by rw [hl.1]; exact lt)) := List.getElem?_eq_getElem _
          obtain ⟨j, rfl, _⟩ := isNumD_int (c1 d (List.mem_of_getElem? hd))
          have := hl.2 i _ _ hx hd
          rw [hx]
          generalize xs[i]'(by rw [hl.1]; exact lt) = x at this
          cases this
          rfl
      refine ⟨a, rfl, by rw [ex] at hs; exact hs, fun n hn => ?_⟩
      obtain ⟨d, hd, rfl⟩ := List.mem_map.mp hn
      obtain ⟨j, rfl, h0⟩ := isNumD_int (c1 d hd)
      exact h0
    · have e : (if ds.all isNumD then some (ds.map intD) else none) = some ns := e
      rw [if_neg c1] at e
      cases e
theorem thg_ints {c : List Addr} {H : Hp} {ns : List Int} : ThgL c H (ns.map V.int) (ns.map PyData.int) := ⟨by rw [List.length_map, List.length_map], fun i x d e1 e2 => by
  rw [List.getElem?_map] at e1 e2
  cases h : ns[i]? with
  | none => rw [h] at e1; cases e1
  | some n => rw [h] at e1 e2; cases e1; cases e2; exact .int n⟩
def incB (ns : List Int) : Bool := decide (ns.Pairwise (· < ·))
theorem inc_adj : ∀ {ns : List Int}, (∀ i, i + 1 < ns.length → ns.getD i 0 < ns.getD (i + 1) 0) → ns.Pairwise (· < ·)
  | [], _ => .nil
  | [x], _ => List.pairwise_singleton _ _
  | x :: y :: r, h => by
    have ih := inc_adj (ns := y :: r) fun i hi => h (i + 1) (by simp only [List.length_cons] at hi ⊢; omega)
    have h0 : x < y := h 0 (by simp)
    refine List.pairwise_cons.mpr ⟨fun z hz => ?_, ih⟩
    rcases List.mem_cons.mp hz with e | e
    · rw [e]; exact h0
    · have := (List.pairwise_cons.mp ih).1 z e
      omega
theorem inc_iff {ns : List Int} : ns.Pairwise (· < ·) ↔ ∀ i, i + 1 < ns.length → ns.getD i 0 < ns.getD (i + 1) 0 := ⟨fun h i hi => by
  rw [List.getD_eq_getElem?_getD, List.getD_eq_getElem?_getD, List.getElem?_eq_getElem (by omega), List.getElem?_eq_getElem hi]
  exact List.pairwise_iff_getElem.mp h i (i + 1) (by omega) hi (by omega), inc_adj⟩
def hitB (rs : List (Int × Int)) (row : List Int) : Bool := rs.all fun r => row.any fun n => decide (r.1 ≤ n) && decide (n ≤ r.2)

/-! ### enumerate over a list or a tuple -/
theorem meets_enB {v : Value} {o : Obj} {G : Heap → Prop} (B : Begins v o G) : Meets (Builtin.«enumerate.__new__» ⟨[.type "enumerate", v], []⟩) (fun _ R s => G s.heap ∧
    R (.ok (.ret (.ref (s.heap.push o).objs.size))) { s with heap := (s.heap.push o).push { cls := .type "enumerate", data := .fields #[.none, .bool false, .ref s.heap.objs.size, rawInt 0, .none, .none] } }) :=
  .of_wp fun prog w A R s given => by
    obtain ⟨hp, g, d, tk, os⟩ := s
    obtain ⟨hg, given⟩ := given
    have sub0 := sub_enumerate
    have begun : ∀ {A' : Around} {E' Q' : Value → Shared → Prop}, Q' (.ref hp.objs.size) ⟨hp.push o, g, d, tk, os⟩ → wpAny (model prog w) A' (pyIter v) Q' E' ⟨hp, g, d, tk, os⟩ := fun q => B.iter prog w _ _ ⟨hp, g, d, tk, os⟩ _ hg q
    wp_walk using begun
    refine wpAny_stack_any fun stk => wpAny_pure ?_
    split
    · rename_i c0 _ _ _ _ _
      cases (c0 == Value.type "enumerate") <;> (wp_walk using begun; exact ⟨_, rfl, given⟩)
    · wp_walk using begun
      exact ⟨_, rfl, given⟩
theorem call_enB {prog : Program} {w : World} {A : Around} {E Q : Value → Shared → Prop} {s : Shared} {v : Value} {o : Obj} {G : Heap → Prop} (B : Begins v o G) (hg : G s.heap)
    (h : ∀ h', IsEnum h' (s.heap.objs.size + 1) s.heap.objs.size 0 .none → h'.get? s.heap.objs.size = some o → (∀ b o, s.heap.get? b = some o → h'.get? b = some o) → Q (.ref (s.heap.objs.size + 1)) { s with heap := h' }) : wpAny (model prog w) A (call (.type "enumerate") [v]) Q E s := by
  refine callType_new F.called_enumerate (by decide) (F.typeCall_enumerate_1 _) (F.newCall_enumerate_1 _) (fun obj => F.args_object_init_2 obj _) F.entry_enumerate_new (meets_enB B) ⟨hg, ?_⟩
  have z1 : (s.heap.push o).objs.size = s.heap.objs.size + 1 := Heap.size_push ..
  show _ ∧ _
  rw [z1]
  have made : IsEnum ((s.heap.push o).push { cls := .type "enumerate", data := .fields #[.none, .bool false, .ref s.heap.objs.size, rawInt 0, .none, .none] }) (s.heap.objs.size + 1) s.heap.objs.size 0 .none := by
    have e0 := Heap.get?_push_size (s.heap.push o) (o := { cls := .type "enumerate", data := .fields #[.none, .bool false, .ref s.heap.objs.size, rawInt 0, .none, .none] }) rfl
    rw [z1] at e0
    exact e0
  exact ⟨⟨_, made, rfl⟩, h _ made (Heap.get?_push_of_some _ (Heap.get?_push_size _ B.free)) fun b o x => Heap.get?_push_of_some _ (Heap.get?_push_of_some _ x)⟩
/-- the tuple at a as it stands, each item in a new pair -/
def IteT (K : PySem.W.Frag) (a : Addr) : It := ⟨fun i H => ∃ (xs : List V) (x : V), SqT K H a xs ∧ xs[i]? = some x, fun i H v H' => ∃ T x, v = .ref T ∧ H T = none ∧ H' = upd H T (.tup [.int (i : Nat), x]) ∧ ∀ xs, SqT K H a xs → xs[i]? = some x, fun i H => ∃ xs : List V, SqT K H a xs ∧ xs.length = i⟩
theorem turn_enT {P : Program} {w : World} {K : PySem.W.Frag} {elts : List Expr} {kk : Nat} {tpos : Pos} (a e it : Addr) (nei : e ≠ it) (nea : e ≠ a) (nai : a ≠ it) :
    Turn P w K (.Tuple elts kk tpos) (IteT K a) [e, it] e (fun i h => (∃ old, IsEnum h e it ((i : Nat) : Int) old) ∧ h.IsTupleIter it a i) where
  mem := List.mem_cons_self ..
  obj := fun i h ⟨⟨old, he⟩, ⟨o, ho, hc, hd⟩⟩ b hb => by
    rcases List.mem_cons.mp hb with z | z
    · subst z
      exact ⟨_, he, fun v q => nomatch q⟩
    · rw [List.mem_singleton.mp z]
      exact ⟨o, ho, fun v q => by rw [hd] at q; cases q⟩
  keep := fun i h h' ⟨⟨old, he⟩, hi⟩ k => ⟨⟨old, k e (List.mem_cons_self ..) _ he⟩, hi.at fun o q => k it (List.mem_cons_of_mem _ (List.mem_singleton.mpr rfl)) o q⟩
  item := by
    intro X hP hw hK hc i pins s σ H E I hf st hg
    subst hP hw hK
    obtain ⟨⟨old, he⟩, hit⟩ := st
    obtain ⟨xs, x, hq, hx⟩ := hg
    obtain ⟨its, rv, isT, _⟩ := I.tuple hq
    obtain ⟨u, hu, ru⟩ := rv.get hx
    have lte : e < s.heap.objs.size := Heap.lt_size he
    have lti : it < s.heap.objs.size := let ⟨_, q, _⟩ := hit; Heap.lt_size q
    have hui : its.toArray[i]? = some u := by simpa using hu
    have lt : i < its.toArray.size := (Array.getElem?_eq_some_iff.mp hui).1
    have D := Draws.tuple (prog := X.prog) (w := X.w) (A := X.A.in1) (I.ok.hd hc) it a nai its.toArray
    refine wpAny_pyNext_enum_itemD D he ⟨hit, isT⟩ lt nei (by intro z; rcases List.mem_cons.mp z with z | z; exact nei z; exact nea (List.mem_singleton.mp z)) fun x' h' tk hx' ho st' hT hsz hk => ?_
    have ex : u = x' := Option.some.inj (hui.symm.trans hx')
    subst ex
    refine ⟨_, rfl, wpAny_letOwnedTupleGo_enum (s := { s with heap := h', toks := tk + 1 }) ho fun h'' he' sb => ?_⟩
    have hT2 := (sb.2 _ (Nat.ne_of_gt lte)).trans hT
    have new : ObjOk X.prog X.w (upd H s.heap.objs.size (.tup [.int (i : Nat), x])) h'' s.heap.objs.size (.tup [.int (i : Nat), x]) := ⟨by show 2 ≤ sizeLine; decide, [.int i tk, u], .cons ⟨_, rfl⟩ (.cons ru .nil), ⟨_, hT2, rfl, _, rfl⟩⟩
    have I1 : Inv X pins σ (upd H s.heap.objs.size (.tup [.int (i : Nat), x])) { s with heap := h'', toks := tk + 1 } :=
      I.turnedNew (t' := tk + 1) (ch := [e, it]) (fun b ob hb q => (sb.2 b (fun z => hb (z ▸ List.mem_cons_self ..))).trans (hk b ob (fun z => hb (z ▸ List.mem_cons_self ..)) (fun z => hb (z ▸ List.mem_cons_of_mem _ (List.mem_singleton.mpr rfl))) q)) hf (Nat.le_refl _) new
    refine ⟨.ref s.heap.objs.size, _, I1, rfl, ⟨_, x, rfl, I.hok.fresh (Nat.le_refl _), rfl, fun ys hy => by rw [I.tuple_inj hy hq]; exact hx⟩, ⟨⟨u, ?_⟩, st'.1.at fun o q => (sb.2 it nei.symm).trans q⟩, fun b hb => ?_⟩
    · have e1 : ((i + 1 : Nat) : Int) = (i : Int) + 1 := by omega
      exact e1 ▸ he'
    · have ltb : b < s.heap.objs.size := by
        rcases List.mem_cons.mp hb with z | z
        · exact z ▸ lte
        · exact (List.mem_singleton.mp z) ▸ lti
      rw [upd_ne (Nat.ne_of_lt ltb)]
      exact (hf b hb).1
  done := by
    intro X hP hw hK hc i pins s σ H E I hf st hg
    subst hP hw hK
    obtain ⟨⟨old, he⟩, hit⟩ := st
    obtain ⟨xs, hq, hx⟩ := hg
    obtain ⟨its, rv, isT, _⟩ := I.tuple hq
    obtain ⟨f0, f1, _, f3, f4, f5⟩ := hf it (List.mem_cons_of_mem _ (List.mem_singleton.mpr rfl))
    have hl : its.toArray.size = i := by
      have := rv.length
      simp
      omega
    have D := Draws.tuple (prog := X.prog) (w := X.w) (A := X.A.in1) (I.ok.hd hc) it a nai its.toArray
    exact wpAny_pyNext_enum_endD D he (hl.symm ▸ ⟨hit, isT⟩) fun h' eb => ⟨rfl, I.turned (t' := s.toks) (fun b o hb q => eb b o hb q) f0 f1 f3 f4 f5⟩
  self := fun A i s Q E ⟨⟨_, he⟩, _⟩ h => wpAny_pyIter_enum he h
def iEnS (K : PySem.W.Frag) (ta : TA) : TI := fun σ H R => ta σ H fun vs H1 => ∃ a, vs = [.ref a] ∧ (((∃ xs, SqL K H1 a xs) ∧ R (Ite K a) H1) ∨ ((∃ xs, SqT K H1 a xs) ∧ R (IteT K a) H1))
theorem pi_enS {X : Cx} {e : Expr} {ta : TA} {p pos tpos : Pos} {elts : List Expr} {kk : Nat} (hg : Gl X "enumerate") (hm : X.mg "enumerate" = none) (ha : PA X [e] ta) (hs : starEach [e] X.env = [(false, eval e X.env)] := by rfl) : PI X (.Tuple elts kk tpos) (.Call (.Name "enumerate" p) [e] [] pos) (iEnS X.K ta) := by
  constructor
  intro pins s σ H R I h
  refine Call_ (ld_blt I hg hm boot_enumerate (PyProof.Rows.callWith_type1 (thn (ha.run pos pins s σ H _ I h) fun us s1 had => ?_) hs rfl))
  obtain ⟨_, H1, J, rel, a, rfl, had⟩ := had
  cases rel with | cons r rr => ?_
  cases rr
  cases r
  have apart : ∀ b ∈ [s1.heap.objs.size + 1, s1.heap.objs.size], FpOk X pins H1 b := fun b hb => by
    have le : s1.heap.objs.size ≤ b := by
      rcases List.mem_cons.mp hb with z | z
      · rw [z]; exact Nat.le_succ _
      · rw [List.mem_singleton.mp z]; exact Nat.le_refl _
    exact J.fpOk le (J.hok.fresh le)
  rcases had with ⟨⟨xs, hq⟩, q⟩ | ⟨⟨xs, hq⟩, q⟩
  · obtain ⟨its, _, isL, _⟩ := J.list hq
    exact call_enumerate_list isL.isList fun h' he hit _ hk => wpAny_pyIter_enum he ⟨_, _, _, _, H1, rfl, J.kept (t' := s1.toks) hk, turn_enum a _ _, ⟨⟨.none, he⟩, hit, Nat.succ_ne_self _⟩, apart, q⟩
  · obtain ⟨its, _, isT, _⟩ := J.tuple hq
    have lta : a < s1.heap.objs.size := let ⟨_, ho, _⟩ := id isT; Heap.lt_size ho
    exact call_enB (begins_tuple a its.toArray) isT fun h' he hit hk => wpAny_pyIter_enum he ⟨_, _, _, _, H1, rfl, J.kept (t' := s1.toks) hk, turn_enT a _ _ (Nat.succ_ne_self _) (Nat.ne_of_gt (Nat.lt_succ_of_lt lta)) (Nat.ne_of_lt lta), ⟨⟨.none, he⟩, ⟨_, hit, rfl, rfl⟩⟩, apart, q⟩
theorem walk_enT {K : PySem.W.Frag} {a : Addr} {xs : List V} : Walk (IteT K a) xs.length (fun H => SqT K H a xs) (YPair (fun i => some (.int (i : Nat))) (fun i => xs[i]?)) where
  goes := fun i _ hi q => ⟨xs, xs[i], q, List.getElem?_eq_getElem hi⟩
  stops := fun _ q => ⟨xs, q, rfl⟩
  yields := fun i H v H' _ q ⟨T, x, h1, h2, h3, h4⟩ => ⟨T, .int (i : Nat), x, h1, h2, h3, rfl, h4 xs q⟩
theorem for_enS {K : PySem.W.Frag} {a : Addr} {xs : List V} {g : TG} {tb : TS} {D : Ends} {σ : L2.St} {H0 H1 : Hp} (hq : Sq K H0 a xs) (s1 : Same H0 H1) (Pv : Nat → L2.St → Hp → Prop) (h0 : Pv 0 σ H1) (hl : ∀ i σ H', Pv i σ H' → Same H0 H')
    (turn : ∀ i x T σ H, xs[i]? = some x → Pv i σ H → H T = none → g (.ref T) σ (upd H T (.tup [.int (i : Nat), x])) fun σ2 H2 => tb { D with nx := Pv (i + 1), ct := Pv (i + 1), bk := D.nx } σ2 H2) (fin : ∀ σ H, Pv xs.length σ H → D.nx σ H) :
    ((∃ xs, SqL K H1 a xs) ∧ ForR (Ite K a) g tb D σ H1) ∨ ((∃ xs, SqT K H1 a xs) ∧ ForR (IteT K a) g tb D σ H1) := by
  have tn : ∀ i v σ H H', i < xs.length → Pv i σ H → YPair (fun i => some (.int (i : Nat))) (fun i => xs[i]?) i H v H' → g v σ H' fun σ2 H2 => tb { D with nx := Pv (i + 1), ct := Pv (i + 1), bk := D.nx } σ2 H2 := by
    rintro i v σ H H' _ hp ⟨T, x, y, rfl, nT, rfl, e1, e2⟩
    cases e1
    exact turn i y T σ H e2 hp nT
  rcases hq with h | h
  · exact .inl ⟨⟨xs, s1.seq h⟩, for_it walk_enum Pv h0 (fun i σ H' _ p => (hl i σ H' p).seq h) tn fin⟩
  · exact .inr ⟨⟨xs, same_t s1 h⟩, for_it walk_enT Pv h0 (fun i σ H' _ p => same_t (hl i σ H' p) h) tn fin⟩

/-! ### lists of texts beside the empty list -/
def okT (l : List Nat) : Prop := ∀ c ∈ l, c < 1114112
theorem okT.take {l : List Nat} (h : okT l) (n : Nat) : okT (l.take n) := fun c hc => h c (List.mem_of_mem_take hc)
theorem okT.drop {l : List Nat} (h : okT l) (n : Nat) : okT (l.drop n) := fun c hc => h c (List.mem_of_mem_drop hc)
theorem okT.app {l r : List Nat} (h : okT l) (g : okT r) : okT (l ++ r) := fun c hc => (List.mem_append.mp hc).elim (h c) (g c)
theorem okT.one {l : List Nat} (h : okT l) {i c : Nat} (e : l[i]? = some c) : okT [c] := fun d hd => by
  rw [List.mem_singleton.mp hd]
  exact h c (List.mem_of_getElem? e)
abbrev txs (ps : List (List Nat)) : List V := ps.map fun x => .str (SX.S x)
theorem txs_snoc (ps : List (List Nat)) (x : List Nat) : txs (ps ++ [x]) = txs ps ++ [.str (SX.S x)] := by simp [txs]
def txD (x : List Nat) : PyData := .str (SX.S x)
theorem dp_txs {K : PySem.W.Frag} {H : Hp} : ∀ ps : List (List Nat), DpAll K H (txs ps) (ps.map txD)
  | [] => .nil
  | _ :: r => .cons (.str _) (dp_txs r)
theorem lay_txs : ∀ ps : List (List Nat), (∀ x ∈ ps, okT x) → PyData.canLayAll0 (ps.map txD) = true
  | [], _ => by simp only [List.map_nil, PyData.canLayAll0]
  | p :: r, h => by
    rw [List.map_cons, PyData.canLayAll0, lay_txs r fun x hx => h x (List.mem_cons_of_mem _ hx), txD, PyData.canLay0, strOk_S (h p (List.mem_cons_self ..))]
    rfl
theorem depth_txs : ∀ ps : List (List Nat), PyData.depthAll (ps.map txD) ≤ 1
  | [] => by simp only [List.map_nil, PyData.depthAll]; omega
  | p :: r => by
    rw [List.map_cons, PyData.depthAll]
    have := depth_txs r
    simp [txD, PyData.depth]
    omega
theorem shaped_txs (ps : List (List Nat)) (h : ∀ x ∈ ps, okT x) : SeqAt.shaped (PyData.list (ps.map txD)) = true := by
  unfold SeqAt.shaped
  rw [PyData.canLay0, lay_txs ps h, PyData.depth, Bool.true_and]
  exact decide_eq_true (by have := depth_txs ps; omega)
theorem eqv_no {α : Type} (f : α → PyData) (ps : List α) : PyData.eqv (PyData.list (ps.map f)) (PyData.list []) = ps.isEmpty := by
  cases ps with
  | nil => simp [PyData.eqv, PyData.eqvAll]
  | cons p r => simp [PyData.eqv, PyData.eqvAll]
/-- xs != [] -/
theorem ne_nil {K : PySem.W.Frag} {H : Hp} {p l : Addr} {ps : List (List Nat)} {Q : VK} (h : ∀ x ∈ ps, okT x) (e : H p = some (.lst (txs ps))) (el : H l = some (.lst [])) (q : Q (.bl (!ps.isEmpty)) H) : rNeD K (.ref p) (.ref l) H Q :=
  ⟨_, .list [], .lst (SqL.of e) (dp_txs ps), .lst (SqL.of el) .nil, shaped_txs ps h, by rfl, by rw [eqv_no]; exact q⟩
theorem eq_nil {K : PySem.W.Frag} {H : Hp} {p l : Addr} {ps : List (List Nat)} {Q : VK} (h : ∀ x ∈ ps, okT x) (e : H p = some (.lst (txs ps))) (el : H l = some (.lst [])) (q : Q (.bl ps.isEmpty) H) : rEqD K (.ref p) (.ref l) H Q :=
  ⟨_, .list [], .lst (SqL.of e) (dp_txs ps), .lst (SqL.of el) .nil, shaped_txs ps h, by rfl, by rw [eqv_no]; exact q⟩

/-! ### the draws of texts -/
theorem sgn_at {z : Str} {n : Nat} (hn : z.cps.toList.length = n) (ho : okT z.cps.toList) {r : Int} (r0 : 0 ≤ r) (r1 : r < n) : ∃ ch, atI z.cps.toList r = some ch ∧ ch < 1114112 := by
  obtain ⟨k, rfl⟩ := Int.eq_ofNat_of_zero_le r0
  have lt : k < z.cps.toList.length := by omega
  exact ⟨_, atI_nat (List.getElem?_eq_getElem lt), ho _ (List.getElem_mem lt)⟩
theorem pick_at {xs : List V} {n : Nat} (hn : xs.length = n) {r : Int} (r0 : 0 ≤ r) (r1 : r < n) : ∃ v, atI xs r = some v ∧ v ∈ xs := by
  obtain ⟨k, rfl⟩ := Int.eq_ofNat_of_zero_le r0
  have lt : k < xs.length := by omega
  exact ⟨_, atI_nat (List.getElem?_eq_getElem lt), List.getElem_mem lt⟩
theorem joinL_nil : ∀ xs : List (List Nat), TL.joinL [] xs = xs.flatten
  | [] => rfl
  | [x] => by simp [TL.joinL]
  | x :: y :: r => by
    have ih := joinL_nil (y :: r)
    show x ++ ([] ++ TL.joinL [] (y :: r)) = _
    rw [ih]
    simp
theorem join_txs (xs : List (List Nat)) : Txt.join "" (xs.map SX.S) = SX.S xs.flatten := by
  have z := SX.join_S [] xs
  rw [joinL_nil] at z
  exact z
theorem flat_le {m : Nat} : ∀ {xs : List (List Nat)}, (∀ x ∈ xs, x.length ≤ m) → xs.flatten.length ≤ m * xs.length
  | [], _ => by simp
  | x :: r, h => by
    have h1 := h x (List.mem_cons_self ..)
    have h2 := flat_le fun y hy => h y (List.mem_cons_of_mem _ hy)
    rw [List.flatten_cons, List.length_append, List.length_cons, Nat.mul_add, Nat.mul_one]
    omega
theorem sum_txs : ∀ xs : List (List Nat), ((xs.map SX.S).map (·.length)).sum = xs.flatten.length
  | [] => rfl
  | x :: r => by
    rw [List.map_cons, List.map_cons, List.sum_cons, sum_txs r, List.flatten_cons, List.length_append, SX.S_len]
theorem fits_txs {xs : List (List Nat)} (h : xs.flatten.length ≤ 100000) : ((xs.map SX.S).map (·.length)).sum + (xs.map SX.S).length * ("" : Str).length ≤ 16777216 := by
  rw [sum_txs, show ("" : Str).length = 0 from rfl, Nat.mul_zero]
  omega
theorem okT_flat {xs : List (List Nat)} (h : ∀ x ∈ xs, okT x) : okT xs.flatten := fun c hc => by
  obtain ⟨x, hx, hc'⟩ := List.mem_flatten.mp hc
  exact h x hx c hc'
theorem txs_strs (xs : List (List Nat)) : txs xs = (xs.map SX.S).map V.str := by simp [txs]
/-- a text of so many signs at most -/
def TxS (n : Nat) (z : Str) : Prop := ∃ l, z = SX.S l ∧ l.length ≤ n ∧ okT l
theorem TxS.of {n : Nat} {l : List Nat} (h : l.length ≤ n) (o : okT l) : TxS n (SX.S l) := ⟨l, rfl, h, o⟩
theorem TxS.mono {n m : Nat} {z : Str} (h : TxS n z) (le : n ≤ m) : TxS m z := let ⟨l, e, h1, h2⟩ := h; ⟨l, e, Nat.le_trans h1 le, h2⟩
theorem TxS.len {n : Nat} {z : Str} (h : TxS n z) : z.length ≤ n := by
  obtain ⟨l, rfl, h1, _⟩ := h
  rw [SX.S_len]; exact h1
theorem TxS.cut {n : Nat} {z : Str} (h : TxS n z) (lo hi : Option Int) : TxS n (cutS z lo hi) := by
  obtain ⟨l, rfl, h1, h2⟩ := h
  unfold cutS
  rw [S_cps]
  refine ⟨_, rfl, ?_, (h2.drop _).take _⟩
  rw [List.length_take, List.length_drop]
  omega
theorem TxS.cutTo {n : Nat} {z : Str} (h : TxS n z) (k : Nat) : TxS k (cutS z none (some (k : Int))) := by
  obtain ⟨l, rfl, h1, h2⟩ := h
  rw [cutS_take]
  exact ⟨_, rfl, by rw [List.length_take]; omega, h2.take _⟩
theorem TxS.cat {n m : Nat} {y z : Str} (h : TxS n y) (g : TxS m z) : TxS (n + m) (y ++ z) := by
  obtain ⟨a, rfl, h1, h2⟩ := h
  obtain ⟨b, rfl, g1, g2⟩ := g
  exact ⟨a ++ b, SX.S_cat a b, by rw [List.length_append]; omega, h2.app g2⟩
theorem TxS.sg {c : Nat} (h : c < 1114112) : TxS 1 ⟨#[c]⟩ := ⟨[c], rfl, Nat.le_refl _, fun d hd => by rw [List.mem_singleton.mp hd]; exact h⟩
theorem TxS.fits {n : Nat} {z : Str} (h : TxS n z) (le : n ≤ 10000) : z.length ≤ sizeLine := Nat.le_trans h.len (Nat.le_trans le (by decide))
theorem TxS.fit {n m : Nat} {y z : Str} (h : TxS n y) (g : TxS m z) (le : n + m ≤ 10000) : y.length + z.length ≤ sizeLine := Nat.le_trans (Nat.add_le_add h.len g.len) (Nat.le_trans le (by decide))
theorem okT_of {l : List Nat} (h : (l.all fun c => decide (c < 1114112)) = true) : okT l := fun c hc => of_decide_eq_true (List.all_eq_true.mp h c hc)

/-! ## draws out of a box -/
structure Bx (b : Addr) (H : Hp) (t : Int) : Prop where
  at_ : ∃ n0 n1 : Int, H b = some (.lst [.int n0, .int n1, .int t]) ∧ 0 ≤ n1 ∧ n1 < 2 ^ 62
  pos : 0 ≤ t
/-- all but the box stands -/
def Kb (b : Addr) (H H' : Hp) : Prop := ∀ a o, a ≠ b → H a = some o → H' a = some o
theorem Kb.refl (b : Addr) (H : Hp) : Kb b H H := fun _ _ _ e => e
theorem Kb.trans {b : Addr} {H H1 H2 : Hp} (x : Kb b H H1) (y : Kb b H1 H2) : Kb b H H2 := fun a o n e => y a o n (x a o n e)
theorem Kb.same {b : Addr} {H H' : Hp} (s : Same H H') : Kb b H H' := fun a o _ e => s a o e
theorem Bx.same {b : Addr} {H H' : Hp} {t : Int} (x : Bx b H t) (s : Same H H') : Bx b H' t := ⟨let ⟨n0, n1, e, r⟩ := x.at_; ⟨n0, n1, s _ _ e, r⟩, x.pos⟩
theorem Bx.off {b : Addr} {H : Hp} {t : Int} (x : Bx b H t) {p : Addr} (n : H p = none) : p ≠ b := fun z => by
  obtain ⟨_, _, e, _⟩ := x.at_
  rw [z, e] at n
  cases n
theorem Bx.ne {b : Addr} {H : Hp} {t : Int} (x : Bx b H t) : H b ≠ none := fun z => x.off z rfl
theorem Bx.upd {b l : Addr} {H : Hp} {t : Int} {o : HO} (x : Bx b H t) (n : l ≠ b) : Bx b (L2.upd H l o) t := ⟨let ⟨n0, n1, e, r⟩ := x.at_; ⟨n0, n1, by rw [upd_ne n.symm]; exact e, r⟩, x.pos⟩
theorem Bx.noTab {b : Addr} {H H' : Hp} {t : Int} (x : Bx b H t) (s : GX.NoTab H H') : Bx b H' t := ⟨let ⟨n0, n1, e, r⟩ := x.at_; ⟨n0, n1, s.lst e, r⟩, x.pos⟩
theorem Kb.free {b p : Addr} {H H' : Hp} {t : Int} (k : Kb b H H') (x : Bx b H' t) (n : H' p = none) : H p = none := by
  cases e : H p with
  | none => rfl
  | some o =>
    have := k p o (x.off n) e
    rw [n] at this
    cases this
/-- what was new stands -/
theorem Kb.new {b p : Addr} {H H' : Hp} {o : HO} (k : Kb b (L2.upd H p o) H') (n : p ≠ b) : H' p = some o := k p o n upd_same
theorem Thg.kb {cs : List Addr} {b : Addr} {H H' : Hp} {v : V} {d : PyData} {t : Int} (h : Thg cs H v d) (x : Bx b H t) (k : Kb b H H') (m : b ∈ cs) : Thg cs H' v d :=
  h.ext (fun a xs n e => k a _ (fun z => n (z ▸ m)) e) fun a xs e => by
    obtain ⟨_, _, eb, _⟩ := x.at_
    exact k a _ (ne_of e eb (fun z => nomatch z)) e
theorem ThgL.kb {cs : List Addr} {b : Addr} {H H' : Hp} {xs : List V} {ds : List PyData} {t : Int} (h : ThgL cs H xs ds) (x : Bx b H t) (k : Kb b H H') (m : b ∈ cs) : ThgL cs H' xs ds := ⟨h.1, fun i y d e1 e2 => (h.2 i y d e1 e2).kb x k m⟩
theorem Thg.less {cs cs' : List Addr} {H : Hp} {v : V} {d : PyData} (h : Thg cs H v d) (w : ∀ a ∈ cs', a ∈ cs) : Thg cs' H v d := by
  induction h with
  | non => exact .non
  | bl b => exact .bl b
  | int i => exact .int i
  | str x => exact .str x
  | lst e n l _ ih => exact .lst e (fun z => n (w _ z)) l ih
  | tup e l _ ih => exact .tup e l ih
theorem ThgL.less {cs cs' : List Addr} {H : Hp} {xs : List V} {ds : List PyData} (h : ThgL cs H xs ds) (w : ∀ a ∈ cs', a ∈ cs) : ThgL cs' H xs ds := ⟨h.1, fun i y d e1 e2 => (h.2 i y d e1 e2).less w⟩
/-- a list among cs changes -/
theorem Thg.upd {cs : List Addr} {H : Hp} {v : V} {d : PyData} {l : Addr} {xs : List V} {o : HO} (h : Thg cs H v d) (e : H l = some (.lst xs)) (m : l ∈ cs) : Thg cs (L2.upd H l o) v d :=
  h.ext (fun a ys n ea => (upd_ne (show a ≠ l from fun z => n (by rw [z]; exact m))).trans ea) fun a ys ea => (upd_ne (ne_of ea e (fun z => nomatch z))).trans ea
theorem ThgL.upd {cs : List Addr} {H : Hp} {vs : List V} {ds : List PyData} {l : Addr} {xs : List V} {o : HO} (h : ThgL cs H vs ds) (e : H l = some (.lst xs)) (m : l ∈ cs) : ThgL cs (L2.upd H l o) vs ds := ⟨h.1, fun i y d e1 e2 => (h.2 i y d e1 e2).upd e m⟩
/-- an address that was free is none of the lists -/
theorem Thg.more {cs : List Addr} {H : Hp} {v : V} {d : PyData} {p : Addr} (h : Thg cs H v d) (n : H p = none) : Thg (p :: cs) H v d := by
  induction h with
  | non => exact .non
  | bl b => exact .bl b
  | int i => exact .int i
  | str x => exact .str x
  | lst e m l _ ih =>
    refine .lst e (fun z => ?_) l ih
    rcases List.mem_cons.mp z with z | z
    · rw [z, n] at e
      cases e
    · exact m z
  | tup e l _ ih => exact .tup e l ih
theorem ThgL.more {cs : List Addr} {H : Hp} {xs : List V} {ds : List PyData} {p : Addr} (h : ThgL cs H xs ds) (n : H p = none) : ThgL (p :: cs) H xs ds := ⟨h.1, fun i y d e1 e2 => (h.2 i y d e1 e2).more n⟩
theorem ThgL.lst {cs : List Addr} {H : Hp} {xs : List V} {ds : List PyData} {a : Addr} (h : ThgL cs H xs ds) (e : H a = some (.lst xs)) (n : a ∉ cs) : Thg cs H (.ref a) (.list ds) := .lst e n h.1 h.2
theorem ThgL.tup {cs : List Addr} {H : Hp} {xs : List V} {ds : List PyData} {a : Addr} (h : ThgL cs H xs ds) (e : H a = some (.tup xs)) : Thg cs H (.ref a) (.tuple ds) := .tup e h.1 h.2
theorem Thg.list {cs : List Addr} {H : Hp} {v : V} {ds : List PyData} (h : Thg cs H v (.list ds)) : ∃ a xs, v = .ref a ∧ H a = some (.lst xs) ∧ a ∉ cs ∧ ThgL cs H xs ds := by
  cases h with
  | lst e n l k => exact ⟨_, _, rfl, e, n, l, k⟩
theorem Thg.tuple {cs : List Addr} {H : Hp} {v : V} {ds : List PyData} (h : Thg cs H v (.tuple ds)) : ∃ a xs, v = .ref a ∧ H a = some (.tup xs) ∧ ThgL cs H xs ds := by
  cases h with
  | tup e l k => exact ⟨_, _, rfl, e, l, k⟩
theorem ThgL.inv {cs : List Addr} {H : Hp} {xs : List V} {d : PyData} {ds : List PyData} (h : ThgL cs H xs (d :: ds)) : ∃ x ys, xs = x :: ys ∧ Thg cs H x d ∧ ThgL cs H ys ds := by
  cases xs with
  | nil => exact nomatch h.1
  | cons x xs => exact ⟨x, xs, rfl, h.2 0 x d rfl rfl, Nat.succ.inj h.1, fun i y e e1 e2 => h.2 (i + 1) y e e1 e2⟩
theorem ThgL.inv0 {cs : List Addr} {H : Hp} {xs : List V} (h : ThgL cs H xs []) : xs = [] := List.eq_nil_of_length_eq_zero h.1
theorem ThgL.at {cs : List Addr} {H : Hp} {xs : List V} {ds : List PyData} {i : Nat} {x : V} (h : ThgL cs H xs ds) (e : xs[i]? = some x) : ∃ d, ds[i]? = some d ∧ Thg cs H x d := by
  have hi : i < ds.length := by rw [← h.1]; exact (List.getElem?_eq_some_iff.mp e).1
  exact ⟨_, List.getElem?_eq_getElem hi, h.2 i x _ e (List.getElem?_eq_getElem hi)⟩
theorem ThgL.atM {α : Type} {f : α → PyData} {cs : List Addr} {H : Hp} {xs : List V} {ys : List α} {i : Nat} {x : V} (h : ThgL cs H xs (ys.map f)) (e : xs[i]? = some x) : ∃ y, ys[i]? = some y ∧ Thg cs H x (f y) := by
  obtain ⟨d, e1, e2⟩ := h.at e
  rw [List.getElem?_map] at e1
  cases h : ys[i]? with
  | none => rw [h] at e1; cases e1
  | some y => rw [h] at e1; cases e1; exact ⟨y, rfl, e2⟩
theorem ThgL.at' {α : Type} {f : α → PyData} {cs : List Addr} {H : Hp} {xs : List V} {ys : List α} {i : Nat} {y : α} (h : ThgL cs H xs (ys.map f)) (e : ys[i]? = some y) : ∃ x, xs[i]? = some x ∧ Thg cs H x (f y) := by
  have hi : i < xs.length := by rw [h.1, List.length_map]; exact (List.getElem?_eq_some_iff.mp e).1
  exact ⟨_, List.getElem?_eq_getElem hi, h.2 i _ _ (List.getElem?_eq_getElem hi) (by rw [List.getElem?_map, e]; rfl)⟩
theorem Thg.inv_int {cs : List Addr} {H : Hp} {v : V} {i : Int} (h : Thg cs H v (.int i)) : v = .int i := by cases h; rfl
theorem Thg.inv_str {cs : List Addr} {H : Hp} {v : V} {x : Str} (h : Thg cs H v (.str x)) : v = .str x := by cases h; rfl
theorem Thg.inv_non {cs : List Addr} {H : Hp} {v : V} (h : Thg cs H v .none) : v = .non := by cases h; rfl
theorem Thg.inv_bl {cs : List Addr} {H : Hp} {v : V} {b : Bool} (h : Thg cs H v (.bool b)) : v = .bl b := by cases h; rfl
theorem thg_strs {cs : List Addr} {H : Hp} {ns : List Str} : ThgL cs H (ns.map V.str) (ns.map PyData.str) := ⟨by rw [List.length_map, List.length_map], fun i x d e1 e2 => by
  rw [List.getElem?_map] at e1 e2
  cases h : ns[i]? with
  | none => rw [h] at e1; cases e1
  | some n => rw [h] at e1 e2; cases e1; cases e2; exact .str n⟩
theorem ThgL.strs {cs : List Addr} {H : Hp} : ∀ {xs : List V} {ns : List Str}, ThgL cs H xs (ns.map PyData.str) → xs = ns.map V.str
  | _, [], h => h.inv0
  | _, n :: r, h => by
    obtain ⟨x, ys, rfl, h1, h2⟩ := ThgL.inv h
    rw [h1.inv_str, ThgL.strs h2]
    rfl
theorem ThgL.ints {cs : List Addr} {H : Hp} : ∀ {xs : List V} {ns : List Int}, ThgL cs H xs (ns.map PyData.int) → xs = ns.map V.int
  | _, [], h => h.inv0
  | _, n :: r, h => by
    obtain ⟨x, ys, rfl, h1, h2⟩ := ThgL.inv h
    rw [h1.inv_int, ThgL.ints h2]
    rfl
theorem thg_pair {cs : List Addr} {H : Hp} {a : Addr} {p : Int × Int} (e : H a = some (.tup [.int p.1, .int p.2])) : Thg cs H (.ref a) (pairD p) := ThgL.tup ((ThgL.one (.int _)).append (.one (.int _))) e
theorem Thg.pair {cs : List Addr} {H : Hp} {v : V} {p : Int × Int} (h : Thg cs H v (pairD p)) : ∃ a, v = .ref a ∧ H a = some (.tup [.int p.1, .int p.2]) := by
  obtain ⟨a, xs, rfl, e, h1⟩ := h.tuple
  obtain ⟨x, ys, rfl, h2, h3⟩ := h1.inv
  obtain ⟨y, zs, rfl, h4, h5⟩ := h3.inv
  rw [h5.inv0, h2.inv_int, h4.inv_int] at e
  exact ⟨a, rfl, e⟩
theorem ThgL.prs {cs : List Addr} {H : Hp} {us : List V} {ps : List (Int × Int)} (h : ThgL cs H us (ps.map pairD)) : Prs H us ps := ⟨by have := h.1; rwa [List.length_map] at this, fun i p ep => by
  obtain ⟨x, e1, e2⟩ := h.at' ep
  obtain ⟨a, rfl, e⟩ := e2.pair
  exact ⟨a, e1, e⟩⟩
theorem prs_thg {cs : List Addr} {H : Hp} {us : List V} {ps : List (Int × Int)} (h : Prs H us ps) : ThgL cs H us (ps.map pairD) := ⟨by rw [List.length_map]; exact h.1, fun i x d e1 e2 => by
  obtain ⟨p, a, ep, rfl, ea⟩ := prs_at h e1
  rw [List.getElem?_map, ep] at e2
  cases e2
  exact thg_pair ea⟩

/-! ### cells, a box, what is drawn of it -/
theorem mul01 (i : Int) (b : Bool) : CMul i (if b = true then 1 else 0) := .inr (by cases b <;> exact ⟨by decide, by decide⟩)
theorem cells_ne {ns : List Int} : PyData.eqv (PyData.list (ns.map PyData.int)) (PyData.list []) = ns.isEmpty := by
  cases ns with
  | nil => simp [PyData.eqv, PyData.eqvAll]
  | cons n r => simp [PyData.eqv, PyData.eqvAll]
def spCells (K : PySem.W.Frag) : Sp := fun vs H Q _ => ∃ (a : Addr) (ns : List Int) (m : Int), vs = [.ref a, .int m] ∧ SqL K H a (ns.map V.int) ∧ ns.length ≤ 63 ∧ 1 ≤ m ∧ m ≤ 60 ∧
  ∀ (l : Addr) (cs : List Int) H', Same H H' → H l = none → H' l = some (.lst (cs.map V.int)) → cs ≠ [] → cs.length ≤ 63 → Q (.ref l) H'
abbrev sCells : Stmt := topS 26
theorem scCells : FnScope ["_law_script", "_law_many", "_law_cells_here", "_law_k", "_law_cell"] ["_law_script", "_law_many"] (defScope sCells) := ⟨rfl, rfl, rfl, by decide +kernel, rfl, by decide +kernel, by decide +kernel⟩
section
variable {K : PySem.W.Frag} {mg : Str → Option Value} {P : Program} {w : World} {base : Heap}
theorem ok_Cells {f : Addr} {fd : FuncData} (F : Fun K "_law_cells" "_law_cells" sCells f fd) (m_list : mg "list" = none) (m_enumerate : mg "enumerate" = none) : FnOk P w K mg base CX0 1 f fd ["_law_script", "_law_many"] (spCells K) := by
  refine F.ok scCells (fun vs H Q E h => ?_) (fun cdv A outer s H vs Q E hr h => ?_)
  · obtain ⟨a, ns, m, rfl, _⟩ := h
    rfl
  · obtain ⟨a, ns, m, rfl, hS, hl, hm0, hm1, q⟩ := h
    refine ⟨_, pss_cons (ps_set (i := 2) scCells.nd rfl (.inl rfl) (pe_callTy call_list_of (by rfl) m_list (by decide +kernel) (pa_cons (pe_slice sl_list (pv 0) po_none (po_some (pv 1))) pa_nil)))
      (pss_cons (ps_for PassesOwn.never rfl (pi_enum (by rfl) m_enumerate (pa_cons (pe_slice sl_list (pv 0) (po_some (pv 1)) (po_some pe_int)) pa_nil)) (pg_tup rfl (pgs_cons (pg_name (i := 3) scCells.nd rfl (.inl rfl)) (pgs_cons (pg_name (i := 4) scCells.nd rfl (.inl rfl)) pgs_nil)))
        (pss_one (ps_asg (pe_op op_add (pe_ix ix_list (pv 2) (pe_op op_mod (pv 3) (pv 1)) (fun _ _ => rfl)) (pe_op op_mul (pv 4) (pe_op op_add (pv 3) pe_int))) (pg_sub (pv 2) (pe_op op_mod (pv 3) (pv 1)) set_list))))
      (pss_one (ps_ret (pe_ifExp (pt_cmpR (op_neD hr.units) (pv 2) (pe_lst pa_nil) (nomark _)) (pv 2) (pe_lst (pa_cons pe_int pa_nil)))))), ?_⟩
    obtain ⟨mn, rfl⟩ := Int.eq_ofNat_of_zero_le (show 0 ≤ m by omega)
    refine ⟨.ref a, rfl, _, rfl, (mn : Int), rfl, a, ns.map V.int, rfl, hS, fun p np => ?_⟩
    rw [cut_front, ← List.map_take]
    have s1 := same_upd (o := .lst ((ns.take mn).map V.int)) np
    refine ⟨p, _, rfl, .inl (SqL.of upd_same), fun l nl => ?_⟩
    have s2 := same_upd (o := .lst ((ns.take mn).map V.int)) nl
    refine ⟨.ref a, rfl, _, rfl, (mn : Int), rfl, 63, rfl, a, ns.map V.int, rfl, (s1.trans s2).seq hS, fun r nr => ?_⟩
    generalize hws : cutV (ns.map V.int) (some (mn : Int)) (some 63) = ws
    have hwe : ∃ ms : List Int, ws = ms.map V.int ∧ ms.length ≤ 63 ∧ (ms ≠ [] → mn ≤ ns.length) := by
      rw [← hws]
      unfold cutV
      rw [← List.map_drop, ← List.map_take]
      refine ⟨_, rfl, ?_, fun z => ?_⟩
      · rw [List.length_take, List.length_drop]
        omega
      · by_cases c : mn ≤ ns.length
        · exact c
        · exfalso
          refine z ?_
          rw [HT.sIx_nat, List.length_map, Nat.min_eq_right (by omega), List.drop_length, List.take_nil]
    obtain ⟨ms, rfl, hms, hmn⟩ := hwe
    have s3 := same_upd (o := .lst (ms.map V.int)) nr
    have s0 := (s1.trans s2).trans s3
    have nlr : l ≠ r := ne_of_none upd_same nr
    have elH := s3 _ _ (upd_same (H := upd H p (.lst ((ns.take mn).map V.int))) (a := l) (o := .lst ((ns.take mn).map V.int)))
    have nl0 : H l = none := s1.free nl
    refine ⟨r, _, rfl, SqL.of upd_same, for_it (walk_enum (xs := ms.map V.int)) (fun i σ Hx => ∃ (cs : List Int) (y3 y4 : Option V), σ = [some (.ref a), some (.int mn), some (.ref l), y3, y4] ∧ Hx l = some (.lst (cs.map V.int)) ∧ cs.length = (ns.take mn).length ∧ ∀ b o, b ≠ l → upd (upd (upd H p (.lst ((ns.take mn).map V.int))) l (.lst ((ns.take mn).map V.int))) r (.lst (ms.map V.int)) b = some o → Hx b = some o) ⟨_, _, _, rfl, elH, rfl, fun _ _ _ e => e⟩ (fun i σ Hx _ hP => ?_) (fun i x σ Hx H' hi hP hy => ?_) (fun σ Hx hP => ?_)⟩
    · obtain ⟨cs, y3, y4, rfl, e, _, k⟩ := hP
      exact SqL.of (k r _ nlr.symm upd_same)
    · obtain ⟨cs, y3, y4, rfl, e, hcl, k⟩ := hP
      obtain ⟨T, x1, x2, rfl, nT, rfl, f1, f2⟩ := hy
      have sT := same_upd (o := .tup [x1, x2]) nT
      cases f1
      have f2 : (ms.map V.int)[i]? = some x2 := f2
      have him : i < ms.length := by rw [List.length_map] at hi; exact hi
      rw [List.getElem?_map, List.getElem?_eq_getElem him] at f2
      cases f2
      have hne : ms ≠ [] := fun z => by rw [z] at hi; exact absurd hi (Nat.not_lt_zero _)
      have h1 := hmn hne
      have hcl' : cs.length = mn := by rw [hcl, List.length_take]; omega
      have hi63 : i < 63 := by rw [List.length_map] at hi; omega
      have j0 := Int.emod_nonneg (i : Int) (show (mn : Int) ≠ 0 by omega)
      have j1 := Int.emod_lt_of_pos (i : Int) (show 0 < (mn : Int) by omega)
      obtain ⟨j, hj⟩ := Int.eq_ofNat_of_zero_le j0
      have jl : j < cs.length := by omega
      have eT := sT _ _ e
      have ixj : ixN (cs.map V.int).length (j : Int) = some j := ixN_of (by rw [List.length_map]; exact jl)
      refine ⟨T, _, rfl, .inl (.inl upd_same), rfl, _, _, rfl, _, _, rfl, rfl, _, rfl, _, rfl, _, rfl, _, _, rfl, rfl, (show 0 < (mn : Int) by omega), l, _, _, .int cs[j], rfl, rfl, SqL.of eT, ?_, _, rfl, _, rfl, _, _, rfl, rfl, _, _, rfl, rfl, .inr ⟨by omega, by omega⟩, _, _, rfl, rfl, ?_⟩
      · rw [hj]
        exact atI_nat (by rw [List.getElem?_map, List.getElem?_eq_getElem jl]; rfl)
      refine ⟨_, rfl, _, rfl, _, rfl, _, _, rfl, rfl, (show 0 < (mn : Int) by omega), l, _, _, j, rfl, rfl, eT, by rw [hj]; exact ixj, ?_⟩
      refine ⟨_, _, _, rfl, by rw [upd_same, ← List.map_set], by rw [List.length_set]; exact hcl, fun b o nb eb => ?_⟩
      rw [upd_ne nb]
      exact sT _ _ (k b o nb eb)
    · obtain ⟨cs, y3, y4, rfl, e, hcl, k⟩ := hP
      refine ⟨.ref l, rfl, Nat.zero_le _, fun z nz => ?_⟩
      have sz := same_upd (o := .lst []) nz
      refine ⟨_, _, .lst (SqL.of (sz _ _ e)) (dp_ints cs), .lst (SqL.of upd_same) .nil, shaped_ints cs, shaped_ints [], ?_⟩
      have kk : Same H (upd Hx z (.lst [])) := fun b o eb => sz _ _ (k b o (ne_of_none eb nl0) (s0 _ _ eb))
      rw [cells_ne]
      cases cs with
      | nil =>
        refine ⟨_, rfl, iteF ⟨by decide, fun y ny => ?_⟩⟩
        exact q y [0] _ (kk.trans (same_upd ny)) (kk.free ny) upd_same (by simp) (by decide)
      | cons c0 r0 =>
        refine ⟨_, rfl, iteT ⟨_, rfl, ?_⟩⟩
        exact q l (c0 :: r0) _ kk nl0 (sz _ _ e) (by simp) (by rw [hcl, List.length_take]; omega)
end
def spBox : Sp := fun vs H Q _ => ∃ (a : Addr) (ns : List Int) (k : Int), vs = [.ref a, .int k] ∧ H a = some (.lst (ns.map V.int)) ∧ 0 ≤ k ∧ k < 63 ∧ ∀ b H', Same H H' → H b = none → Bx b H' 0 → Q (.ref b) H'
abbrev sBox : Stmt := topS 27
theorem scBox : FnScope ["_law_script", "_law_k", "_law_cell"] ["_law_script", "_law_k"] (defScope sBox) := ⟨rfl, rfl, rfl, by decide +kernel, rfl, by decide +kernel, by decide +kernel⟩
section
variable {K : PySem.W.Frag} {mg : Str → Option Value} {P : Program} {w : World} {base : Heap}
theorem ok_Box {f : Addr} {fd : FuncData} (F : Fun K "_law_box" "_law_box" sBox f fd) (m_len : mg "len" = none) (m_abs : mg "abs" = none) (m_int : mg "int" = none) : FnOk P w K mg base CX0 1 f fd ["_law_script", "_law_k"] spBox := by
  refine F.ok scBox (fun vs H Q E h => ?_) (fun cdv A outer s H vs Q E hr h => ?_)
  · obtain ⟨a, ns, k, rfl, _⟩ := h
    rfl
  · obtain ⟨a, ns, k, rfl, hS, hk0, hk1, q⟩ := h
    refine ⟨_, pss_cons (ps_set (i := 2) scBox.nd rfl (.inl rfl) (pe_ifExp (pt_cmpR op_lt (pv 1) (pe_callB call_len_seq (by rfl) m_len PySem.boot_len (pa_cons (pv 0) pa_nil)) (nomark _)) (pe_ix ix_list (pv 0) (pv 1) (fun _ _ => rfl)) pe_int))
      (pss_one (ps_ret (pe_lst (pa_cons (pe_op op_mul (pe_callB call_abs (by rfl) m_abs (by decide +kernel) (pa_cons (pv 2) pa_nil)) (pe_callTy call_int1 (by rfl) m_int (by decide +kernel) (pa_cons (pe_cmpR op_ge (pe_callB call_abs (by rfl) m_abs (by decide +kernel) (pa_cons (pv 2) pa_nil)) (pe_op op_pow pe_int pe_int) (nomark _)) pa_nil))) (pa_cons (pe_op op_add (pe_op op_add (pe_op op_mod (pv 2) pe_int) (pe_op op_mul pe_int (pv 1))) pe_int) (pa_cons pe_int pa_nil)))))), ?_⟩
    obtain ⟨kn, rfl⟩ := Int.eq_ofNat_of_zero_le hk0
    have fin : ∀ x : Int, (tRet (tLst (tCons (tOp (rI CMul fun i j => .int (i * j)) (tCB (fun xs H Q => ∃ i, xs = [V.int i] ∧ Q (V.int (if i < 0 then -i else i)) H) (tCons (tVar 2) tNil)) (tCB (fun xs H Q => (∃ i, xs = [V.int i] ∧ Q (V.int i) H) ∨ ∃ k, xs = [V.bl k] ∧ Q (V.int (if k = true then 1 else 0)) H)
        (tCons (tOp (rI0 fun i j => V.bl (decide (j ≤ i))) (tCB (fun xs H Q => ∃ i, xs = [V.int i] ∧ Q (V.int (if i < 0 then -i else i)) H) (tCons (tVar 2) tNil)) (tOp (rI CPow fun i j => V.int (i ^ j.toNat)) (tC (V.int 10)) (tC (V.int 18)))) tNil)))
        (tCons (tOp (rI0 fun i j => V.int (i + j)) (tOp (rI0 fun i j => V.int (i + j)) (tOp (rI (fun _ j => 0 < j) fun i j => V.int (i % j)) (tVar 2) (tC (V.int 2305843009213693951))) (tOp (rI CMul fun i j => V.int (i * j)) (tC (V.int 1000003)) (tVar 1))) (tC (V.int 11))) (tCons (tC (V.int 0)) tNil))))) { nx := fun _ H' => Q .non H', rt := Q } [some (.ref a), some (.int (kn : Int)), some (.int x)] H := fun x => by
      have x0 := Int.emod_nonneg x (show (2305843009213693951 : Int) ≠ 0 by decide)
      have x1 := Int.emod_lt_of_pos x (show (0 : Int) < 2305843009213693951 by decide)
      refine ⟨_, rfl, _, rfl, _, rfl, _, rfl, 10, 18, rfl, rfl, ⟨by decide, by decide, by decide⟩, _, _, rfl, rfl, .inr ⟨_, rfl, _, _, rfl, rfl, mul01 _ _, ?_⟩⟩
      refine ⟨_, rfl, _, _, rfl, rfl, (show (0 : Int) < 2305843009213693951 by decide), _, rfl, _, _, rfl, rfl, .inl ⟨by decide, by decide⟩, _, _, rfl, rfl, _, _, rfl, rfl, (by show 3 ≤ sizeLine; decide), fun b nb => ?_⟩
      exact q b _ (same_upd nb) nb ⟨⟨_, _, upd_same, by omega, by omega⟩, Int.le_refl _⟩
    refine ⟨_, rfl, _, rfl, a, _, rfl, .inl (SqL.of hS), _, _, rfl, rfl, _, rfl, ite2 (fun c => ?_) (fun c => ?_)⟩
    · have lt : kn < ns.length := by have := of_decide_eq_true c; rw [List.length_map] at this; omega
      exact ⟨_, rfl, _, rfl, a, _, _, .int ns[kn], rfl, rfl, SqL.of hS, atI_nat (by rw [List.getElem?_map, List.getElem?_eq_getElem lt]; rfl), fin _⟩
    · exact fin 0
end
def spTakeB : Sp := fun vs H Q _ => ∃ (b : Addr) (t m : Int), vs = [.ref b, .int m] ∧ Bx b H t ∧ t < 2 ^ 40 ∧ 0 < m ∧ m.natAbs < 2 ^ 250 ∧
  ∀ r t' H', 0 ≤ r → r < m → t ≤ t' → t' ≤ t + 1 → Bx b H' t' → Kb b H H' → Q (.int r) H'
abbrev sTake : Stmt := topS 28
theorem scTake : FnScope ["_law_box_here", "_law_many", "_law_found", "_law_once", "_law_twice"] ["_law_box_here", "_law_many"] (defScope sTake) := ⟨rfl, rfl, rfl, by decide +kernel, rfl, by decide +kernel, by decide +kernel⟩
section
variable {K : PySem.W.Frag} {mg : Str → Option Value} {P : Program} {w : World} {base : Heap}
theorem ok_Take {f : Addr} {fd : FuncData} (F : Fun K "_law_take" "_law_take" sTake f fd) (m_divmod : mg "divmod" = none) : FnOk P w K mg base CX0 1 f fd ["_law_box_here", "_law_many"] spTakeB := by
  refine F.ok scTake (fun vs H Q E h => ?_) (fun cdv A outer s H vs Q E hr h => ?_)
  · obtain ⟨b, t, m, rfl, _⟩ := h
    rfl
  · obtain ⟨b, t, m, rfl, hS, ht, hm, hm2, q⟩ := h
    refine ⟨_, pss_cons (ps_if (pt_cmpR op_gt (pe_ix ix_list (pv 0) pe_int (fun _ _ => rfl)) pe_int (nomark _)) (pss_cons (ps_asg (pe_callB call_divmodW (by rfl) m_divmod (by decide +kernel) (pa_cons (pe_ix ix_list (pv 0) pe_int (fun _ _ => rfl)) (pa_cons (pv 1) pa_nil))) (pg_tup rfl (pgs_cons (pg_sub (pv 0) pe_int set_list) (pgs_cons (pg_name (i := 2) scTake.nd rfl (.inl rfl)) pgs_nil))))
        (pss_one (ps_ret (pv 2))))
        pss_nil)
      (pss_cons (ps_asg (pe_op op_add (pe_ix ix_list (pv 0) pe_int (fun _ _ => rfl)) pe_int) (pg_sub (pv 0) pe_int set_list))
      (pss_cons (ps_set (i := 3) scTake.nd rfl (.inl rfl) (pe_op op_mod (pe_op op_pow (pe_op op_add (pe_ix ix_list (pv 0) pe_int (fun _ _ => rfl)) (pe_op op_mul pe_int (pe_ix ix_list (pv 0) pe_int (fun _ _ => rfl)))) pe_int) pe_int))
      (pss_cons (ps_set (i := 4) scTake.nd rfl (.inl rfl) (pe_op op_mod (pe_op op_mul (pe_op op_add (pv 3) (pe_ix ix_list (pv 0) pe_int (fun _ _ => rfl))) (pe_op op_add (pe_op op_add (pe_op op_mod (pv 3) pe_int) pe_int) (pe_ix ix_list (pv 0) pe_int (fun _ _ => rfl)))) pe_int))
      (pss_one (ps_ret (pe_op op_mod (pe_op op_fdivW (pe_op op_mod (pe_op op_add (pe_op op_mul (pv 4) pe_int) (pv 3)) pe_int) pe_int) (pv 1))))))), ?_⟩
    obtain ⟨⟨n0, n1, e, h0, h1⟩, hp⟩ := hS
    have atk : ∀ (j : Nat) (x : V) {H' : Hp} {xs : List V}, H' b = some (.lst xs) → xs[j]? = some x → ∃ (p : Addr) (ys : List V) (i : Int) (v : V), V.ref b = .ref p ∧ V.int (j : Int) = .int i ∧ SqL K H' p ys ∧ atI ys i = some v ∧ v = x := fun j x H' xs e1 e2 => ⟨b, xs, j, x, rfl, rfl, SqL.of e1, atI_nat e2, rfl⟩
    refine ⟨_, rfl, b, _, 0, _, rfl, rfl, SqL.of e, atI_nat (j := 0) rfl, n0, 0, rfl, rfl, _, rfl, ite2 (fun c => ?_) (fun c => ?_)⟩
    · have hdp : CDivP n0 m := ⟨hm, PyProof.noPylong_of_log2 (Nat.lt_trans (PySem.Flt.log2_lt_of (by decide) hm2) (by decide))⟩
      refine ⟨_, rfl, b, _, 0, _, rfl, rfl, SqL.of e, atI_nat (j := 0) rfl, _, rfl, n0, m, rfl, hdp, fun p np => ?_⟩
      have sp := same_upd (o := .tup [.int (n0 / m), .int (n0 % m)]) np
      refine ⟨p, _, rfl, .inl (.inl upd_same), rfl, _, _, rfl, _, rfl, b, _, 0, 0, rfl, rfl, sp _ _ e, rfl, _, _, rfl, rfl, ?_⟩
      refine ⟨_, rfl, q _ t _ (Int.emod_nonneg _ (by omega)) (Int.emod_lt_of_pos _ hm) (Int.le_refl _) (by omega) ⟨⟨_, n1, upd_same, h0, h1⟩, hp⟩ (fun a o na ea => ?_)⟩
      rw [upd_ne na]
      exact sp _ _ ea
    · refine ⟨_, rfl, b, _, 2, _, rfl, rfl, SqL.of e, atI_nat (j := 2) rfl, t, 1, rfl, rfl, _, rfl, b, _, 2, 2, rfl, rfl, e, rfl, ?_⟩
      generalize hH1 : upd H b (.lst ([V.int n0, .int n1, .int t].set 2 (.int (t + 1)))) = H1
      have e1 : H1 b = some (.lst [.int n0, .int n1, .int (t + 1)]) := by rw [← hH1]; exact upd_same
      have k1 : Kb b H H1 := fun a o na ea => by rw [← hH1, upd_ne na]; exact ea
      refine ⟨_, rfl, b, _, 1, _, rfl, rfl, SqL.of e1, atI_nat (j := 1) rfl, _, rfl, b, _, 2, _, rfl, rfl, SqL.of e1, atI_nat (j := 2) rfl, 39373, t + 1, rfl, rfl, .inl ⟨by decide, by decide⟩, n1, _, rfl, rfl, _, 3, rfl, rfl, ⟨by decide, by decide, by omega⟩, _, _, rfl, rfl, (show (0 : Int) < 2147483647 by decide), ?_⟩
      dsimp only
      generalize (n1 + 39373 * (t + 1)) ^ (3 : Int).toNat = y
      have y0 : 0 ≤ y % 2147483647 := Int.emod_nonneg _ (by decide)
      have y1 : y % 2147483647 < 2147483647 := Int.emod_lt_of_pos _ (by decide)
      generalize y % 2147483647 = o at y0 y1 ⊢
      have o0 : 0 ≤ o % 40009 := Int.emod_nonneg _ (by decide)
      have o1 : o % 40009 < 40009 := Int.emod_lt_of_pos _ (by decide)
      refine ⟨_, rfl, _, rfl, b, _, 2, _, rfl, rfl, SqL.of e1, atI_nat (j := 2) rfl, _, _, rfl, rfl, _, rfl, o, 40009, rfl, rfl, (show (0 : Int) < 40009 by decide), _, _, rfl, rfl, _, rfl, b, _, 2, _, rfl, rfl, SqL.of e1, atI_nat (j := 2) rfl, _, _, rfl, rfl, _, _, rfl, rfl, .inl ⟨by omega, by omega⟩, _, 2147483629, rfl, rfl, (show (0 : Int) < 2147483629 by decide), ?_⟩
      refine ⟨_, rfl, _, _, rfl, rfl, .inr ⟨by decide, by decide⟩, _, rfl, _, _, rfl, rfl, _, 2147483587, rfl, rfl, (show (0 : Int) < 2147483587 by decide), _, 32, rfl, rfl, ⟨by decide, by decide⟩, _, rfl, _, m, rfl, rfl, hm, ?_⟩
      exact q _ (t + 1) _ (Int.emod_nonneg _ (by omega)) (Int.emod_lt_of_pos _ hm) (by omega) (Int.le_refl _) ⟨⟨n0, n1, e1, h0, h1⟩, by omega⟩ k1
end

/-! ### comprehensions by draws -/
/-- each item makes something by draws -/
theorem lc_bx {α : Type} (f : α → PyData) (R : Nat → α → Prop) (T : Int) {J : It} {n : Nat} {G : Hp → Prop} {Y : Nat → Hp → V → Hp → Prop} (w : Walk J n G Y) {g : TG} {tt : TT} {te : TE} {vs : List Nat} {σ : L2.St} {H1 : Hp} {D b : Addr} {t1 : Int} {Qd : Hp → Prop} (cs : List Addr) (hb : b ∈ cs) (hcs : ∀ c ∈ cs, H1 c ≠ none) (S1 : Bx b H1 t1) (nD : H1 D = none) (hz : n ≤ 1000) (hG : ∀ H, Kb b H1 H → H D ≠ none → G H)
    (turn : ∀ i x H H' t (Kt : V → Hp → Prop) (Kn : Hp → Prop), i < n → t1 ≤ t → t ≤ t1 + T * (i : Int) → Bx b H t → Kb b H1 H → (∀ c ∈ D :: cs, H c ≠ none) → Y i H x H' → (∀ z y t' H4, R i z → Thg (D :: cs) H4 y (f z) → t ≤ t' → t' ≤ t + T → Bx b H4 t' → Kb b H H4 → Kt y H4) →
      g x (wipe σ vs) H' fun σ2 H2 => wipe σ2 vs = wipe σ vs ∧ tt σ2 H2 fun b H3 => if b = true then te σ2 H3 Kt else Kn H3)
    (fin : ∀ (H : Hp) (t : Int) (zs : List α), zs.length = n → (∀ (i : Nat) z, zs[i]? = some z → R i z) → t1 ≤ t → t ≤ t1 + T * (n : Int) → Bx b H t → Kb b H1 H → Thg cs H (.ref D) (.list (zs.map f)) → Qd H) : LcW J g tt te vs σ D Qd H1 := by
  have off := S1.off nD
  have nDc : D ∉ cs := fun z => hcs D z nD
  have old : ∀ {H : Hp} {ws : List V} {t : Int}, H D = some (.lst ws) → Kb b H1 H → Bx b H t → ∀ c ∈ D :: cs, H c ≠ none := fun {H ws t} eD k S c hc z => by
    rcases List.mem_cons.mp hc with e | e
    · rw [e, eD] at z
      cases z
    · cases e2 : H1 c with
      | none => exact hcs c e e2
      | some o =>
        by_cases cb : c = b
        · exact S.off z cb
        · rw [k c o cb e2] at z
          cases z
  refine lc_it w (fun j H => ∃ (t : Int) (ws : List V) (zs : List α), H D = some (.lst ws) ∧ ThgL (D :: cs) H ws (zs.map f) ∧ zs.length = j ∧ (∀ (i : Nat) z, zs[i]? = some z → R i z) ∧ t1 ≤ t ∧ t ≤ t1 + T * (j : Int) ∧ Bx b H t ∧ Kb b H1 H)
    ⟨t1, [], [], upd_same, ThgL.nil, rfl, (fun _ _ e => nomatch e), Int.le_refl _, by omega, S1.same (same_upd nD), Kb.same (same_upd nD)⟩ (fun i H _ hP => ?_) (fun i x H H' hi hP hy => ?_) (fun H hP => ?_)
  · obtain ⟨t, ws, zs, eD, _, _, _, _, _, _, k⟩ := hP
    exact hG H k (fun z => by rw [eD] at z; cases z)
  · obtain ⟨t, ws, zs, eD, hw, hzl, hR, u0, u1, S, k⟩ := hP
    refine turn i x H H' t _ _ hi u0 u1 S k (old eD k S) hy fun z y t' H4 hz' hy4 v0 v1 S4 k4 => ?_
    have eD4 := k4 _ _ off eD
    have hwl : ws.length = i := by rw [hw.1, List.length_map, hzl]
    refine ⟨ws, eD4, Nat.lt_of_lt_of_le (show ws.length < 1000 by omega) (by decide), t', ws ++ [y], zs ++ [z], upd_same, ?_, by rw [List.length_append, hzl]; rfl, fun j z' e => ?_, by omega, ?_, S4.upd off, fun a o na e => ?_⟩
    · rw [List.map_append]
      exact ((hw.kb S k4 (by simp [hb])).upd eD4 (by simp)).append (ThgL.one (hy4.upd eD4 (by simp)))
    · by_cases hj : j < zs.length
      · rw [List.getElem?_append_left hj] at e
        exact hR j z' e
      · rw [List.getElem?_append_right (by omega)] at e
        have h0 : j - zs.length < 1 := (List.getElem?_eq_some_iff.mp e).1
        obtain rfl : j = zs.length := by omega
        rw [Nat.sub_self] at e
        cases e
        rw [hzl]
        exact hz'
    · have e : T * ((i + 1 : Nat) : Int) = T * (i : Int) + T := by rw [Int.natCast_succ, Int.mul_add, Int.mul_one]
      rw [e]
      omega
    · rw [upd_ne (ne_of_none e nD)]
      exact k4 _ _ na (k a o na e)
  · obtain ⟨t, ws, zs, eD, hw, hzl, hR, u0, u1, S, k⟩ := hP
    exact fin H t zs hzl hR u0 u1 S k ((hw.less (fun _ z => List.mem_cons_of_mem _ z)).lst eD nDc)
/-- some items are kept by draws -/
theorem lc_bxF {α : Type} (f : α → PyData) (R : α → Prop) (T : Int) {J : It} {n : Nat} {G : Hp → Prop} {Y : Nat → Hp → V → Hp → Prop} (w : Walk J n G Y) {g : TG} {tt : TT} {te : TE} {vs : List Nat} {σ : L2.St} {H1 : Hp} {D b : Addr} {t1 : Int} {Qd : Hp → Prop} (cs : List Addr) (hb : b ∈ cs) (hcs : ∀ c ∈ cs, H1 c ≠ none) (S1 : Bx b H1 t1) (nD : H1 D = none) (hz : n ≤ 1000) (hG : ∀ H, Kb b H1 H → H D ≠ none → G H)
    (turn : ∀ i x H H' t (Kt : V → Hp → Prop) (Kn : Hp → Prop), i < n → t1 ≤ t → t ≤ t1 + T * (i : Int) → Bx b H t → Kb b H1 H → (∀ c ∈ D :: cs, H c ≠ none) → Y i H x H' → (∀ z y t' H4, R z → Thg (D :: cs) H4 y (f z) → t ≤ t' → t' ≤ t + T → Bx b H4 t' → Kb b H H4 → Kt y H4) → (∀ t' H4, t ≤ t' → t' ≤ t + T → Bx b H4 t' → Kb b H H4 → Kn H4) →
      g x (wipe σ vs) H' fun σ2 H2 => wipe σ2 vs = wipe σ vs ∧ tt σ2 H2 fun b H3 => if b = true then te σ2 H3 Kt else Kn H3)
    (fin : ∀ (H : Hp) (t : Int) (zs : List α), zs.length ≤ n → (∀ z ∈ zs, R z) → t1 ≤ t → t ≤ t1 + T * (n : Int) → Bx b H t → Kb b H1 H → Thg cs H (.ref D) (.list (zs.map f)) → Qd H) : LcW J g tt te vs σ D Qd H1 := by
  have off := S1.off nD
  have nDc : D ∉ cs := fun z => hcs D z nD
  have old : ∀ {H : Hp} {ws : List V} {t : Int}, H D = some (.lst ws) → Kb b H1 H → Bx b H t → ∀ c ∈ D :: cs, H c ≠ none := fun {H ws t} eD k S c hc z => by
    rcases List.mem_cons.mp hc with e | e
    · rw [e, eD] at z
      cases z
    · cases e2 : H1 c with
      | none => exact hcs c e e2
      | some o =>
        by_cases cb : c = b
        · exact S.off z cb
        · rw [k c o cb e2] at z
          cases z
  refine lc_it w (fun j H => ∃ (t : Int) (ws : List V) (zs : List α), H D = some (.lst ws) ∧ ThgL (D :: cs) H ws (zs.map f) ∧ zs.length ≤ j ∧ (∀ z ∈ zs, R z) ∧ t1 ≤ t ∧ t ≤ t1 + T * (j : Int) ∧ Bx b H t ∧ Kb b H1 H)
    ⟨t1, [], [], upd_same, ThgL.nil, Nat.le_refl _, (fun _ e => nomatch e), Int.le_refl _, by omega, S1.same (same_upd nD), Kb.same (same_upd nD)⟩ (fun i H _ hP => ?_) (fun i x H H' hi hP hy => ?_) (fun H hP => ?_)
  · obtain ⟨t, ws, zs, eD, _, _, _, _, _, _, k⟩ := hP
    exact hG H k (fun z => by rw [eD] at z; cases z)
  · obtain ⟨t, ws, zs, eD, hw, hzl, hR, u0, u1, S, k⟩ := hP
    have e : T * ((i + 1 : Nat) : Int) = T * (i : Int) + T := by rw [Int.natCast_succ, Int.mul_add, Int.mul_one]
    refine turn i x H H' t _ _ hi u0 u1 S k (old eD k S) hy (fun z y t' H4 hz' hy4 v0 v1 S4 k4 => ?_) (fun t' H4 v0 v1 S4 k4 => ?_)
    · have eD4 := k4 _ _ off eD
      have hwl : ws.length ≤ i := by rw [hw.1, List.length_map]; exact hzl
      refine ⟨ws, eD4, Nat.lt_of_lt_of_le (show ws.length < 1000 by omega) (by decide), t', ws ++ [y], zs ++ [z], upd_same, ?_, by rw [List.length_append]; show zs.length + 1 ≤ i + 1; omega, fun z' e => ?_, by omega, by rw [e]; omega, S4.upd off, fun a o na e => ?_⟩
      · rw [List.map_append]
        exact ((hw.kb S k4 (by simp [hb])).upd eD4 (by simp)).append (ThgL.one (hy4.upd eD4 (by simp)))
      · rcases List.mem_append.mp e with e | e
        · exact hR z' e
        · rw [List.mem_singleton.mp e]
          exact hz'
      · rw [upd_ne (ne_of_none e nD)]
        exact k4 _ _ na (k a o na e)
    · exact ⟨t', ws, zs, k4 _ _ off eD, hw.kb S k4 (by simp [hb]), by omega, hR, by omega, by rw [e]; omega, S4, fun a o na e => k4 _ _ na (k a o na e)⟩
  · obtain ⟨t, ws, zs, eD, hw, hzl, hR, u0, u1, S, k⟩ := hP
    exact fin H t zs hzl hR u0 u1 S k ((hw.less (fun _ z => List.mem_cons_of_mem _ z)).lst eD nDc)
/-! ### unlike words in a drawn order -/
def az26 : Str := "abcdefghijklmnopqrstuvwxyz"
def az36 : Str := "abcdefghijklmnopqrstuvwxyz0123456789"
theorem az26_len : az26.cps.toList.length = 26 := by decide +kernel
theorem az26_ok : okT az26.cps.toList := okT_of (by decide +kernel)
theorem az36_len : az36.cps.toList.length = 36 := by decide +kernel
theorem az36_ok : okT az36.cps.toList := okT_of (by decide +kernel)
theorem az36_nodup : az36.cps.toList.Nodup := by decide +kernel
/-- a text of drawn signs -/
theorem join_drawn {b : Addr} {H3 : Hp} {D : Addr} {cs : List Nat} (hD : Thg [b] H3 (.ref D) (.list (cs.map fun c => PyData.str (sgS c)))) : H3 D = some (.lst ((cs.map sgS).map V.str)) := by
  obtain ⟨_, ws, e, eD, _, hws⟩ := hD.list
  cases e
  have e2 : ws = (cs.map sgS).map V.str := ThgL.strs (ns := cs.map sgS) (by rw [List.map_map]; exact hws)
  rw [eD, e2]
def spNames3 : Sp := fun vs H Q _ => ∃ (b : Addr) (t m : Int), vs = [.ref b, .int m] ∧ Bx b H t ∧ t + 200 < 2 ^ 40 ∧ 0 ≤ m ∧ m ≤ 20 ∧
  ∀ (l : Addr) (xs : List Str) t' H', H l = none → H' l = some (.lst (xs.map V.str)) → (∀ x ∈ xs, TxS 20 x) → (xs.length : Int) = m → t ≤ t' → t' ≤ t + 60 → Bx b H' t' → Kb b H H' → Q (.ref l) H'
abbrev sNames : Stmt := topS 29
theorem scNames : FnScope ["_law_box_here", "_law_many", "_law_letters", "_law_found", "_law_k", "_law_rest", "_law_at", "_law_first", "_law_sign"] ["_law_box_here", "_law_many"] (defScope sNames) := ⟨rfl, rfl, rfl, by decide +kernel, rfl, by decide +kernel, by decide +kernel⟩
section
variable {K : PySem.W.Frag} {mg : Str → Option Value} {P : Program} {w : World} {base : Heap}
theorem ok_Names {f : Addr} {fd : FuncData} (F : Fun K "_law_names" "_law_names" sNames f fd) (C__law_take : Cal P w K mg base 1 "_law_take" ["_law_box_here", "_law_many"] spTakeB) (m_range : mg "range" = none) (m_len : mg "len" = none) : FnOk P w K mg base CX0 2 f fd ["_law_box_here", "_law_many"] spNames3 := by
  refine F.ok scNames (fun vs H Q E h => ?_) (fun cdv A outer s H vs Q E hr h => ?_)
  · obtain ⟨b, t, m, rfl, _⟩ := h
    rfl
  · obtain ⟨b, t, m, rfl, hS, ht, hm0, hm1, q⟩ := h
    refine ⟨_, pss_cons (ps_asg (pe_tup (pa_cons pe_str (pa_cons (pe_lst pa_nil) pa_nil))) (pg_tup rfl (pgs_cons (pg_name (i := 2) scNames.nd rfl (.inr rfl)) (pgs_cons (pg_name (i := 3) scNames.nd rfl (.inl rfl)) pgs_nil))))
      (pss_cons (ps_set (i := 5) scNames.nd rfl (.inl rfl) (pe_join pe_str (pe_lc (own := [("_law_k", 4)]) (g := (gName 4)) (tt := tYes) (te := (tOp (L2.rIxS) (tVar 2) (tCall spTakeB [] E0 (tCons (tVar 0) (tCons (tC (.int 26)) tNil))))) rfl scNames.nd (pi_range1 rfl m_range (pa_cons (pe_own C__law_take hr (by rfl) (pa_cons (pv 0) (pa_cons pe_int pa_nil))) pa_nil)) (blkOk_by (own := [("_law_k", 4)]) (N := ["_law_box_here", "_law_many", "_law_letters", "_law_found", "_law_k", "_law_rest", "_law_at", "_law_first", "_law_sign"]) (sc := defScope sNames) (by decide +kernel)) (fun _ _ _ _ _ => (pg_name (i := 4) scNames.nd rfl (.inl rfl))) (fun _ _ _ _ _ => pts_nil) (fun _ _ _ _ _ => (pe_ix ix_str (pv 2) (pe_own C__law_take hr (by rfl) (pa_cons (pv 0) (pa_cons pe_int pa_nil))) (fun _ _ => rfl))))))
      (pss_cons (ps_par rfl scNames.nd (i := 6) (j := 7) rfl rfl (by decide) rfl rfl (pa_cons (pe_own C__law_take hr (by rfl) (pa_cons (pv 0) (pa_cons (pe_op op_add (pe_callB call_len_str (by rfl) m_len PySem.boot_len (pa_cons (pv 5) pa_nil)) pe_int) pa_nil))) (pa_cons (pe_own C__law_take hr (by rfl) (pa_cons (pv 0) (pa_cons pe_int pa_nil))) pa_nil)) (by rfl))
      (pss_cons (ps_for PassesOwn.never rfl (pi_range1 rfl m_range (pa_cons (pv 1) pa_nil)) (pg_name (i := 4) scNames.nd rfl (.inl rfl))
        (pss_cons (ps_set (i := 8) scNames.nd rfl (.inl rfl) (pe_ix ix_str (pv 2) (pe_op op_mod (pe_op op_add (pv 7) (pe_op op_mulW pe_int (pv 4))) pe_int) (fun _ _ => rfl)))
        (pss_one (ps_expr (pe_bm PySem.F.plainAttrs_list PySem.F.slot_list_insert PySem.F.type_list_insert mt_insert (pv 3) (pa_cons (pe_own C__law_take hr (by rfl) (pa_cons (pv 0) (pa_cons (pe_op op_add (pv 4) pe_int) pa_nil))) (pa_cons (pe_ifExp (pt_cmpR op_eq (pe_op op_mod (pv 4) pe_int) pe_int (nomark _)) (pv 8) (pe_op op_add_str (pe_op op_add_str (pe_slice sl_str (pv 5) po_none (po_some (pv 6))) (pv 8)) (pe_slice sl_str (pv 5) (po_some (pv 6)) po_none))) pa_nil)))))))
      (pss_one (ps_ret (pv 3)))))), ?_⟩
    refine ⟨Nat.zero_le _, fun p np => ⟨(by show 2 ≤ sizeLine; decide), fun T nT => ⟨T, _, rfl, .inl (.inl upd_same), rfl, _, _, rfl, _, _, rfl, rfl, ?_⟩⟩⟩
    have sp := same_upd (o := .lst []) np
    have sT := same_upd (o := .tup [.str "abcdefghijklmnopqrstuvwxyz", .ref p]) nT
    have s0 := sp.trans sT
    have ep0 := sT _ _ (upd_same (H := H) (a := p) (o := .lst []))
    have offp := hS.off np
    have hS0 := hS.same s0
    revert ep0 hS0 s0
    generalize upd (upd H p (.lst [])) T (.tup [.str "abcdefghijklmnopqrstuvwxyz", .ref p]) = H0
    intro s0 ep0 hS0
    have k0 := Kb.same (b := b) s0
    refine ⟨⟨_, rfl⟩, _, rfl, b, t, 8, rfl, hS0, by omega, by decide, by decide, fun n t1 H1 n0 n1 u0 u1 hS1 k1 => ⟨n, rfl, by omega, by omega, fun D nD => ?_⟩⟩
    have ep1 := k1 _ _ offp ep0
    have k01 := k0.trans k1
    refine lc_bx (α := Nat) (fun ch => .str (sgS ch)) (fun _ ch => ch < 1114112) 1 (walk_range (lo := 0) (n := n.toNat)) [b] (by simp) (fun c hc => by rw [List.mem_singleton.mp hc]; exact hS1.ne) hS1 nD (by omega) (fun _ _ _ => trivial) (fun i x Hx Hx' t' Kt Kn hi v0 v1 hSx kx _ hy k => ?_) (fun H3 t3 cs hcl hcs v0 v1 hS3 k3 hD => ?_)
    · obtain ⟨rfl, rfl⟩ := hy
      refine ⟨rfl, _, rfl, _, rfl, b, t', 26, rfl, hSx, by omega, by decide, by decide, fun r2 t2 H4 r20 r21 w0 w1 hS4 k4 => ?_⟩
      obtain ⟨ch, e, hch⟩ := sgn_at az26_len az26_ok r20 r21
      exact ⟨_, r2, _, rfl, rfl, (by show az26.length ≤ sizeLine; decide +kernel), e, k ch _ _ H4 hch (.str _) (by omega) (by omega) hS4 k4⟩
    refine ⟨_, D, cs.map sgS, rfl, rfl, .inl (SqL.of (join_drawn hD)), join_fits (by omega), ?_⟩
    rw [join_signs]
    have hcs' : okT cs := fun ch hch => by
      obtain ⟨i, hi, e⟩ := List.getElem_of_mem hch
      exact hcs i ch (by rw [List.getElem?_eq_getElem hi, e])
    have hR : TxS 8 (SX.S cs) := .of (by omega) hcs'
    have ep3 := k3 _ _ offp ep1
    have k03 := k01.trans k3
    clear hD hcs k3 k1
    refine ⟨_, rfl, _, rfl, SX.S cs, rfl, S_le (by omega), _, 1, rfl, rfl, b, t3, _, rfl, hS3, by omega, by rw [SX.S_len]; omega, by rw [SX.S_len]; omega, fun a1 t4 H4 a10 a11 w0 w1 hS4 k4 => ?_⟩
    refine ⟨_, rfl, b, t4, 26, rfl, hS4, by omega, by decide, by decide, fun f1 t5 H5 f10 f11 w2 w3 hS5 k5 => ⟨_, _, rfl, ?_⟩⟩
    have ep5 := k5 _ _ offp (k4 _ _ offp ep3)
    have k05 := (k03.trans k4).trans k5
    obtain ⟨mn, rfl⟩ := Int.eq_ofNat_of_zero_le hm0
    refine ⟨_, rfl, (mn : Int), rfl, by omega, by omega, for_range (n := ((mn : Int)).toNat) (fun i σ Hx => ∃ (t' : Int) (xs : List Str) (y4 y8 : Option V), σ = [some (.ref b), some (.int (mn : Int)), some (.str az26), some (.ref p), y4, some (.str (SX.S cs)), some (.int a1), some (.int f1), y8] ∧ Hx p = some (.lst (xs.map V.str)) ∧ (∀ x ∈ xs, TxS 20 x) ∧ xs.length = i ∧ t5 ≤ t' ∧ t' ≤ t5 + (i : Int) ∧ Bx b Hx t' ∧ Kb b H Hx)
      ⟨t5, [], _, _, rfl, ep5, (fun _ z => nomatch z), rfl, by omega, by omega, hS5, k05⟩ (fun i σ Hx hi hP => ?_) (fun σ Hx hP => ?_)⟩
    · obtain ⟨t', xs, y4, y8, rfl, ep, hx, hxl, v2, v3, hSx, kx⟩ := hP
      have hi20 : (i : Int) < 20 := by omega
      have e0 := Int.emod_nonneg (f1 + 7 * (0 + (i : Int))) (show (26 : Int) ≠ 0 by decide)
      have e1 := Int.emod_lt_of_pos (f1 + 7 * (0 + (i : Int))) (show (0 : Int) < 26 by decide)
      obtain ⟨ch, e, hch⟩ := sgn_at az26_len az26_ok e0 e1
      have hC : TxS 1 (⟨#[ch]⟩ : Str) := TxS.sg hch
      refine ⟨_, rfl, _, rfl, _, rfl, _, _, rfl, rfl, mulw (by decide) (by omega), _, _, rfl, rfl, _, _, rfl, rfl, (show (0 : Int) < 26 by decide), _, _, _, rfl, rfl, (by show az26.length ≤ sizeLine; decide +kernel), e, ?_⟩
      refine ⟨_, rfl, .inl ⟨rfl, _, SqL.of ep⟩, _, rfl, _, rfl, _, _, rfl, rfl, b, t', _, rfl, hSx, by omega, by omega, by omega, fun r2 t2 H6 r20 r21 w4 w5 hS6 k6 => ?_⟩
      have ep6 := k6 _ _ offp ep
      have fin : ∀ z : Str, TxS 20 z → ∃ (l : Addr) (ys : List V) (i' : Int) (y : V), V.ref p = .ref l ∧ [V.int r2, .str z] = [.int i', y] ∧ H6 l = some (.lst ys) ∧ ys.length < sizeLine ∧ 0 ≤ i' ∧ i' < 2 ^ 63 ∧ (∃ (t' : Int) (xs : List Str) (y4 y8 : Option V), [some (V.ref b), some (.int (mn : Int)), some (.str az26), some (.ref p), some (.int (0 + (i : Int))), some (.str (SX.S cs)), some (.int a1), some (.int f1), some (.str (⟨#[ch]⟩ : Str))] = [some (.ref b), some (.int (mn : Int)), some (.str az26), some (.ref p), y4, some (.str (SX.S cs)), some (.int a1), some (.int f1), y8] ∧ upd H6 l (.lst (ys.take i'.toNat ++ [y] ++ ys.drop i'.toNat)) p = some (.lst (xs.map V.str)) ∧ (∀ x ∈ xs, TxS 20 x) ∧ xs.length = i + 1 ∧ t5 ≤ t' ∧ t' ≤ t5 + ((i + 1 : Nat) : Int) ∧ Bx b (upd H6 l (.lst (ys.take i'.toNat ++ [y] ++ ys.drop i'.toNat))) t' ∧ Kb b H (upd H6 l (.lst (ys.take i'.toNat ++ [y] ++ ys.drop i'.toNat)))) := fun z hz => by
        refine ⟨p, _, r2, _, rfl, rfl, ep6, small1000 (by rw [List.length_map]; omega), r20, by omega, t2, xs.take r2.toNat ++ [z] ++ xs.drop r2.toNat, _, _, rfl, ?_, fun x hx' => ?_, ?_, by omega, by omega, hS6.upd offp, fun a o na ea => ?_⟩
        · rw [upd_same, List.map_append, List.map_append, List.map_take, List.map_drop]
          rfl
        · rcases List.mem_append.mp hx' with y | y
          · rcases List.mem_append.mp y with y | y
            · exact hx x (List.mem_of_mem_take y)
            · rw [List.mem_singleton.mp y]; exact hz
          · exact hx x (List.mem_of_mem_drop y)
        · rw [List.length_append, List.length_append, List.length_take, List.length_drop, List.length_singleton]
          omega
        · rw [upd_ne (ne_of_none ea np)]
          exact k6 _ _ na (kx a o na ea)
      refine ⟨_, rfl, _, _, rfl, rfl, (show (0 : Int) < 3 by decide), rfl, _, rfl, ite2 (fun c1 => ?_) (fun c1 => ?_)⟩
      · exact ⟨_, rfl, fin _ (hC.mono (by decide))⟩
      · have hB8 := hR.fits (by decide)
        refine ⟨_, rfl, _, rfl, a1, rfl, SX.S cs, rfl, hB8, _, rfl, _, _, rfl, rfl, (hR.cut _ _).fit hC (by decide), _, rfl, _, rfl, a1, rfl, SX.S cs, rfl, hB8, _, _, rfl, rfl, ((hR.cut _ _).cat hC).fit (hR.cut _ _) (by decide), ?_⟩
        exact fin _ ((((hR.cut _ _).cat hC).cat (hR.cut _ _)).mono (by decide))
    · obtain ⟨t', xs, y4, y8, rfl, ep, hx, hxl, v2, v3, hSx, kx⟩ := hP
      exact ⟨_, rfl, q p xs t' Hx np ep hx (by rw [hxl]; omega) (by omega) (by omega) hSx kx⟩
end
/-- the mark of a turn -/
def wordF (r1 r2 : List Nat) (f : Int) (i : Nat) : Str := SX.S (r1 ++ [az36.cps.toList.getD ((f + 7 * (i : Int)) % 36).toNat 0] ++ r2)
theorem word_inj {r1 r2 : List Nat} {f : Int} {i j : Nat} (hi : i < 36) (hj : j < 36) (h : wordF r1 r2 f i = wordF r1 r2 f j) : i = j := by
  have h := SX.S_inj h
  rw [List.append_assoc, List.append_assoc] at h
  have h := List.append_cancel_left h
  have h : az36.cps.toList.getD ((f + 7 * (i : Int)) % 36).toNat 0 = az36.cps.toList.getD ((f + 7 * (j : Int)) % 36).toNat 0 := by
    have := (List.cons.inj h).1
    exact this
  have a0 := Int.emod_nonneg (f + 7 * (i : Int)) (show (36 : Int) ≠ 0 by decide)
  have a1 := Int.emod_lt_of_pos (f + 7 * (i : Int)) (show (0 : Int) < 36 by decide)
  have b0 := Int.emod_nonneg (f + 7 * (j : Int)) (show (36 : Int) ≠ 0 by decide)
  have b1 := Int.emod_lt_of_pos (f + 7 * (j : Int)) (show (0 : Int) < 36 by decide)
  have la : ((f + 7 * (i : Int)) % 36).toNat < az36.cps.toList.length := by rw [az36_len]; omega
  have lb : ((f + 7 * (j : Int)) % 36).toNat < az36.cps.toList.length := by rw [az36_len]; omega
  rw [List.getD_eq_getElem?_getD, List.getD_eq_getElem?_getD, List.getElem?_eq_getElem la, List.getElem?_eq_getElem lb] at h
  have := (List.getElem_inj (h₀ := la) (h₁ := lb) az36_nodup).mp h
  omega
def spMarks3 : Sp := fun vs H Q _ => ∃ (b : Addr) (t m : Int), vs = [.ref b, .int m] ∧ Bx b H t ∧ t + 200 < 2 ^ 40 ∧ 0 ≤ m ∧ m ≤ 30 ∧
  ∀ (l : Addr) (xs : List Str) t' H', H l = none → H' l = some (.lst (xs.map V.str)) → (∀ x ∈ xs, TxS 20 x) → xs.Nodup → (xs.length : Int) = m → t ≤ t' → t' ≤ t + 60 → Bx b H' t' → Kb b H H' → Q (.ref l) H'
abbrev sMarks : Stmt := topS 30
theorem scMarks : FnScope ["_law_box_here", "_law_many", "_law_signs", "_law_found", "_law_k", "_law_rest", "_law_at", "_law_first"] ["_law_box_here", "_law_many"] (defScope sMarks) := ⟨rfl, rfl, rfl, by decide +kernel, rfl, by decide +kernel, by decide +kernel⟩
section
variable {K : PySem.W.Frag} {mg : Str → Option Value} {P : Program} {w : World} {base : Heap}
theorem ok_Marks {f : Addr} {fd : FuncData} (F : Fun K "_law_marks" "_law_marks" sMarks f fd) (C__law_take : Cal P w K mg base 1 "_law_take" ["_law_box_here", "_law_many"] spTakeB) (m_range : mg "range" = none) (m_len : mg "len" = none) : FnOk P w K mg base CX0 2 f fd ["_law_box_here", "_law_many"] spMarks3 := by
  refine F.ok scMarks (fun vs H Q E h => ?_) (fun cdv A outer s H vs Q E hr h => ?_)
  · obtain ⟨b, t, m, rfl, _⟩ := h
    rfl
  · obtain ⟨b, t, m, rfl, hS, ht, hm0, hm1, q⟩ := h
    refine ⟨_, pss_cons (ps_asg (pe_tup (pa_cons pe_str (pa_cons (pe_lst pa_nil) pa_nil))) (pg_tup rfl (pgs_cons (pg_name (i := 2) scMarks.nd rfl (.inr rfl)) (pgs_cons (pg_name (i := 3) scMarks.nd rfl (.inl rfl)) pgs_nil))))
      (pss_cons (ps_set (i := 5) scMarks.nd rfl (.inl rfl) (pe_join pe_str (pe_lc (own := [("_law_k", 4)]) (g := (gName 4)) (tt := tYes) (te := (tOp (L2.rIxS) (tVar 2) (tCall spTakeB [] E0 (tCons (tVar 0) (tCons (tC (.int 36)) tNil))))) rfl scMarks.nd (pi_range1 rfl m_range (pa_cons (pe_op op_add pe_int (pe_own C__law_take hr (by rfl) (pa_cons (pv 0) (pa_cons pe_int pa_nil)))) pa_nil)) (blkOk_by (own := [("_law_k", 4)]) (N := ["_law_box_here", "_law_many", "_law_signs", "_law_found", "_law_k", "_law_rest", "_law_at", "_law_first"]) (sc := defScope sMarks) (by decide +kernel)) (fun _ _ _ _ _ => (pg_name (i := 4) scMarks.nd rfl (.inl rfl))) (fun _ _ _ _ _ => pts_nil) (fun _ _ _ _ _ => (pe_ix ix_str (pv 2) (pe_own C__law_take hr (by rfl) (pa_cons (pv 0) (pa_cons pe_int pa_nil))) (fun _ _ => rfl))))))
      (pss_cons (ps_par rfl scMarks.nd (i := 6) (j := 7) rfl rfl (by decide) rfl rfl (pa_cons (pe_own C__law_take hr (by rfl) (pa_cons (pv 0) (pa_cons (pe_op op_add (pe_callB call_len_str (by rfl) m_len PySem.boot_len (pa_cons (pv 5) pa_nil)) pe_int) pa_nil))) (pa_cons (pe_own C__law_take hr (by rfl) (pa_cons (pv 0) (pa_cons pe_int pa_nil))) pa_nil)) (by rfl))
      (pss_cons (ps_for PassesOwn.never rfl (pi_range1 rfl m_range (pa_cons (pv 1) pa_nil)) (pg_name (i := 4) scMarks.nd rfl (.inl rfl))
        (pss_one (ps_expr (pe_bm PySem.F.plainAttrs_list PySem.F.slot_list_insert PySem.F.type_list_insert mt_insert (pv 3) (pa_cons (pe_own C__law_take hr (by rfl) (pa_cons (pv 0) (pa_cons (pe_op op_add (pv 4) pe_int) pa_nil))) (pa_cons (pe_op op_add_str (pe_op op_add_str (pe_slice sl_str (pv 5) po_none (po_some (pv 6))) (pe_ix ix_str (pv 2) (pe_op op_mod (pe_op op_add (pv 7) (pe_op op_mulW pe_int (pv 4))) pe_int) (fun _ _ => rfl))) (pe_slice sl_str (pv 5) (po_some (pv 6)) po_none)) pa_nil))))))
      (pss_one (ps_ret (pv 3)))))), ?_⟩
    refine ⟨Nat.zero_le _, fun p np => ⟨(by show 2 ≤ sizeLine; decide), fun T nT => ⟨T, _, rfl, .inl (.inl upd_same), rfl, _, _, rfl, _, _, rfl, rfl, ?_⟩⟩⟩
    have sp := same_upd (o := .lst []) np
    have sT := same_upd (o := .tup [.str "abcdefghijklmnopqrstuvwxyz0123456789", .ref p]) nT
    have s0 := sp.trans sT
    have ep0 := sT _ _ (upd_same (H := H) (a := p) (o := .lst []))
    have offp := hS.off np
    have hS0 := hS.same s0
    revert ep0 hS0 s0
    generalize upd (upd H p (.lst [])) T (.tup [.str "abcdefghijklmnopqrstuvwxyz0123456789", .ref p]) = H0
    intro s0 ep0 hS0
    have k0 := Kb.same (b := b) s0
    refine ⟨⟨_, rfl⟩, _, rfl, b, t, 7, rfl, hS0, by omega, by decide, by decide, fun n t1 H1 n0 n1 u0 u1 hS1 k1 => ⟨_, _, rfl, rfl, 3 + n, rfl, by omega, by omega, fun D nD => ?_⟩⟩
    have ep1 := k1 _ _ offp ep0
    have k01 := k0.trans k1
    refine lc_bx (α := Nat) (fun ch => .str (sgS ch)) (fun _ ch => ch < 1114112) 1 (walk_range (lo := 0) (n := (3 + n).toNat)) [b] (by simp) (fun c hc => by rw [List.mem_singleton.mp hc]; exact hS1.ne) hS1 nD (by omega) (fun _ _ _ => trivial) (fun i x Hx Hx' t' Kt Kn hi v0 v1 hSx kx _ hy k => ?_) (fun H3 t3 cs hcl hcs v0 v1 hS3 k3 hD => ?_)
    · obtain ⟨rfl, rfl⟩ := hy
      refine ⟨rfl, _, rfl, _, rfl, b, t', 36, rfl, hSx, by omega, by decide, by decide, fun r2 t2 H4 r20 r21 w0 w1 hS4 k4 => ?_⟩
      obtain ⟨ch, e, hch⟩ := sgn_at az36_len az36_ok r20 r21
      exact ⟨_, r2, _, rfl, rfl, (by show az36.length ≤ sizeLine; decide +kernel), e, k ch _ _ H4 hch (.str _) (by omega) (by omega) hS4 k4⟩
    refine ⟨_, D, cs.map sgS, rfl, rfl, .inl (SqL.of (join_drawn hD)), join_fits (by omega), ?_⟩
    rw [join_signs]
    have hcs' : okT cs := fun ch hch => by
      obtain ⟨i, hi, e⟩ := List.getElem_of_mem hch
      exact hcs i ch (by rw [List.getElem?_eq_getElem hi, e])
    have hR : TxS 9 (SX.S cs) := .of (by omega) hcs'
    have ep3 := k3 _ _ offp ep1
    have k03 := k01.trans k3
    clear hD hcs k3 k1
    refine ⟨_, rfl, _, rfl, SX.S cs, rfl, S_le (by omega), _, 1, rfl, rfl, b, t3, _, rfl, hS3, by omega, by rw [SX.S_len]; omega, by rw [SX.S_len]; omega, fun a1 t4 H4 a10 a11 w0 w1 hS4 k4 => ?_⟩
    refine ⟨_, rfl, b, t4, 36, rfl, hS4, by omega, by decide, by decide, fun f1 t5 H5 f10 f11 w2 w3 hS5 k5 => ⟨_, _, rfl, ?_⟩⟩
    have ep5 := k5 _ _ offp (k4 _ _ offp ep3)
    have k05 := (k03.trans k4).trans k5
    obtain ⟨mn, rfl⟩ := Int.eq_ofNat_of_zero_le hm0
    obtain ⟨an, rfl⟩ := Int.eq_ofNat_of_zero_le a10
    refine ⟨_, rfl, (mn : Int), rfl, by omega, by omega, for_range (n := ((mn : Int)).toNat) (fun i σ Hx => ∃ (t' : Int) (xs : List Str) (y4 : Option V), σ = [some (.ref b), some (.int (mn : Int)), some (.str az36), some (.ref p), y4, some (.str (SX.S cs)), some (.int (an : Int)), some (.int f1)] ∧ Hx p = some (.lst (xs.map V.str)) ∧ (∀ x ∈ xs, TxS 20 x) ∧ (∀ x ∈ xs, ∃ j, j < i ∧ x = wordF (cs.take an) (cs.drop an) f1 j) ∧ xs.Nodup ∧ xs.length = i ∧ t5 ≤ t' ∧ t' ≤ t5 + (i : Int) ∧ Bx b Hx t' ∧ Kb b H Hx)
      ⟨t5, [], _, rfl, ep5, (fun _ z => nomatch z), (fun _ z => nomatch z), List.nodup_nil, rfl, by omega, by omega, hS5, k05⟩ (fun i σ Hx hi hP => ?_) (fun σ Hx hP => ?_)⟩
    · obtain ⟨t', xs, y4, rfl, ep, hx, hw, hnd, hxl, v2, v3, hSx, kx⟩ := hP
      have hi30 : (i : Int) < 30 := by omega
      have e0 := Int.emod_nonneg (f1 + 7 * (0 + (i : Int))) (show (36 : Int) ≠ 0 by decide)
      have e1 := Int.emod_lt_of_pos (f1 + 7 * (0 + (i : Int))) (show (0 : Int) < 36 by decide)
      obtain ⟨ch, e, hch⟩ := sgn_at az36_len az36_ok e0 e1
      have hC : TxS 1 (⟨#[ch]⟩ : Str) := TxS.sg hch
      have hB8 := hR.fits (by decide)
      refine ⟨_, rfl, .inl ⟨rfl, _, SqL.of ep⟩, _, rfl, _, rfl, _, _, rfl, rfl, b, t', _, rfl, hSx, by omega, by omega, by omega, fun r2 t2 H6 r20 r21 w4 w5 hS6 k6 => ?_⟩
      have ep6 := k6 _ _ offp ep
      refine ⟨_, rfl, _, rfl, (an : Int), rfl, SX.S cs, rfl, hB8, _, rfl, _, rfl, _, rfl, _, _, rfl, rfl, mulw (by decide) (by omega), _, _, rfl, rfl, _, _, rfl, rfl, (show (0 : Int) < 36 by decide), _, _, _, rfl, rfl, (by show az36.length ≤ sizeLine; decide +kernel), e, _, _, rfl, rfl, (hR.cut _ _).fit hC (by decide), _, rfl, _, rfl, (an : Int), rfl, SX.S cs, rfl, hB8, _, _, rfl, rfl, ((hR.cut _ _).cat hC).fit (hR.cut _ _) (by decide), ?_⟩
      have hz : TxS 20 (cutS (SX.S cs) none (some (an : Int)) ++ (⟨#[ch]⟩ : Str) ++ cutS (SX.S cs) (some (an : Int)) none) := (((hR.cut _ _).cat hC).cat (hR.cut _ _)).mono (by decide)
      have ez : cutS (SX.S cs) none (some (an : Int)) ++ (⟨#[ch]⟩ : Str) ++ cutS (SX.S cs) (some (an : Int)) none = wordF (cs.take an) (cs.drop an) f1 i := by
        rw [cutS_take, cutS_drop, show (⟨#[ch]⟩ : Str) = SX.S [ch] from rfl, SX.S_cat, SX.S_cat]
        unfold wordF
        obtain ⟨j, hj⟩ := Int.eq_ofNat_of_zero_le e0
        rw [hj] at e e1
        have lj : j < az36.cps.toList.length := by rw [az36_len]; omega
        have z := atI_nat (List.getElem?_eq_getElem lj)
        rw [z] at e
        cases e
        rw [show f1 + 7 * (i : Int) = f1 + 7 * (0 + (i : Int)) by omega, hj, Int.toNat_natCast, List.getD_eq_getElem?_getD, List.getElem?_eq_getElem lj]
        rfl
      rw [ez] at hz ⊢
      have nw : wordF (cs.take an) (cs.drop an) f1 i ∉ xs := fun z => by
        obtain ⟨j, hj, ej⟩ := hw _ z
        have := word_inj (by omega) (by omega) ej
        omega
      refine ⟨p, _, r2, _, rfl, rfl, ep6, small1000 (by rw [List.length_map]; omega), r20, by omega, t2, xs.take r2.toNat ++ [wordF (cs.take an) (cs.drop an) f1 i] ++ xs.drop r2.toNat, _, rfl, ?_, fun x hx' => ?_, fun x hx' => ?_, ?_, ?_, by omega, by omega, hS6.upd offp, fun a o na ea => ?_⟩
      · rw [upd_same, List.map_append, List.map_append, List.map_take, List.map_drop]
        rfl
      · rcases List.mem_append.mp hx' with y | y
        · rcases List.mem_append.mp y with y | y
          · exact hx x (List.mem_of_mem_take y)
          · rw [List.mem_singleton.mp y]; exact hz
        · exact hx x (List.mem_of_mem_drop y)
      · rcases List.mem_append.mp hx' with y | y
        · rcases List.mem_append.mp y with y | y
          · obtain ⟨j, h1, h2⟩ := hw x (List.mem_of_mem_take y)
            exact ⟨j, by omega, h2⟩
          · exact ⟨i, by omega, List.mem_singleton.mp y⟩
        · obtain ⟨j, h1, h2⟩ := hw x (List.mem_of_mem_drop y)
          exact ⟨j, by omega, h2⟩
      · have pm : (xs.take r2.toNat ++ [wordF (cs.take an) (cs.drop an) f1 i] ++ xs.drop r2.toNat).Perm (wordF (cs.take an) (cs.drop an) f1 i :: xs) := by
          rw [List.append_assoc]
          refine List.perm_middle.trans (List.Perm.cons _ ?_)
          show (xs.take r2.toNat ++ xs.drop r2.toNat).Perm xs
          rw [List.take_append_drop]
        exact pm.nodup_iff.mpr (List.nodup_cons.mpr ⟨nw, hnd⟩)
      · rw [List.length_append, List.length_append, List.length_take, List.length_drop, List.length_singleton]
        omega
      · rw [upd_ne (ne_of_none ea np)]
        exact k6 _ _ na (kx a o na ea)
    · obtain ⟨t', xs, y4, rfl, ep, hx, hw, hnd, hxl, v2, v3, hSx, kx⟩ := hP
      exact ⟨_, rfl, q p xs t' Hx np ep hx hnd (by rw [hxl]; omega) (by omega) (by omega) hSx kx⟩
end

/-! ### batches, tests: as data -/
inductive Pas3
  | line (p : Str) (s l b : Int)
  | racks (p : Str) (per : Int) (st : List (Int × Int))
def Pas3.pl : Pas3 → Str
  | .line p _ _ _ => p
  | .racks p _ _ => p
def pasD : Pas3 → PyData
  | .line p s l b => .tuple [.str "line", .str p, .int s, .int l, .int b]
  | .racks p per st => .tuple [.str "racks", .str p, .int per, .list (st.map pairD)]
structure Bat3 where
  mark : Str
  tins : Int
  pas : List Pas3
def batD (B : Bat3) : PyData := .tuple [.str B.mark, .int B.tins, .list (B.pas.map pasD)]
structure Tst where
  mark : Str
  tin : Int
  bad : Bool
def wordD (b : Bool) : Str := if b = true then "bad" else "good"
def tstD (t : Tst) : PyData := .tuple [.str t.mark, .int t.tin, .str (wordD t.bad)]
def spanD : Option (Int × Int) → PyData
  | none => .none
  | some p => pairD p
def Big : Int := 10 ^ 75
theorem Big.pos : 0 < Big := by decide
theorem Big.lt {x : Int} (h0 : 0 ≤ x) (h : x < Big) : x.natAbs < 2 ^ 250 := by
  have : Big = 10 ^ 75 := rfl
  omega
/-- a pass of a batch of so many tins -/
def PasOk (n : Int) : Pas3 → Prop
  | .line p s l b => TxS 20 p ∧ 0 ≤ s ∧ s < Big ∧ 0 ≤ l ∧ l < Big ∧ 1 ≤ b ∧ b < Big
  | .racks p per st => TxS 20 p ∧ 1 ≤ per ∧ per < Big ∧ (st.length : Int) = (n + per - 1) / per ∧ st.length ≤ 100 ∧ ∀ r ∈ st, 0 ≤ r.1 ∧ r.1 ≤ r.2 ∧ r.2 < Big
/-- of small numbers -/
def PasSm : Pas3 → Prop
  | .line _ s l _ => s ≤ 20 ∧ l ≤ 3
  | .racks _ _ st => ∀ r ∈ st, r.2 < 100
theorem PasOk.pl {n : Int} {q : Pas3} (h : PasOk n q) : TxS 20 q.pl := by cases q <;> exact h.1
def BatOk (B : Bat3) : Prop := TxS 20 B.mark ∧ 1 ≤ B.tins ∧ B.tins < Big ∧ B.pas.length ≤ 40 ∧ ∀ q ∈ B.pas, PasOk B.tins q
def winPas : Pas3 → Int → Option (Int × Int)
  | .line _ s l b, k => some (s + k * l / b, s + k * l / b)
  | .racks _ per st, k => st[(k / per).toNat]?
def passF (ps : List Pas3) (p : Str) : Option Pas3 := ps.find? fun q => decide (q.pl = p)
def winF (B : Bat3) (p : Str) (k : Int) : Option (Int × Int) := match passF B.pas p with
  | none => none
  | some q => winPas q k
theorem rack_at {n per k : Int} {st : List (Int × Int)} (h1 : 1 ≤ per) (hs : (st.length : Int) = (n + per - 1) / per) (k0 : 0 ≤ k) (k1 : k < n) : ∃ j, k / per = ((j : Nat) : Int) ∧ j < st.length := by
  obtain ⟨j, hj⟩ := Int.eq_ofNat_of_zero_le (Int.ediv_nonneg k0 (by omega : 0 ≤ per))
  refine ⟨j, hj, ?_⟩
  have h2 := Int.ediv_mul_le k (show per ≠ 0 by omega)
  have h3 : (k / per + 1) * per ≤ n + per - 1 := by
    rw [Int.add_mul]
    omega
  have h4 := (Int.le_ediv_iff_mul_le (show 0 < per by omega)).mpr h3
  omega
theorem winPas_some {n k : Int} {q : Pas3} (h : PasOk n q) (k0 : 0 ≤ k) (k1 : k < n) : ∃ p, winPas q k = some p ∧ 0 ≤ p.1 ∧ p.1 ≤ p.2 := by
  cases q with
  | line p s l b =>
    obtain ⟨_, h1, h2, h3, h4, h5, h6⟩ := h
    refine ⟨_, rfl, ?_, Int.le_refl _⟩
    have := Int.ediv_nonneg (Int.mul_nonneg k0 h3) (show 0 ≤ b by omega)
    show 0 ≤ s + k * l / b
    omega
  | racks p per st =>
    obtain ⟨_, h1, h2, h3, h4, h5⟩ := h
    obtain ⟨j, hj, jl⟩ := rack_at h1 h3 k0 k1
    refine ⟨st[j], ?_, ?_⟩
    · show st[(k / per).toNat]? = _
      rw [hj, Int.toNat_natCast, List.getElem?_eq_getElem jl]
    · have := h5 _ (List.getElem_mem jl)
      exact ⟨this.1, this.2.1⟩
theorem passF_mem {ps : List Pas3} {p : Str} {q : Pas3} (h : passF ps p = some q) : q ∈ ps ∧ q.pl = p := ⟨List.mem_of_find?_eq_some h, of_decide_eq_true (List.find?_some (p := fun q : Pas3 => decide (q.pl = p)) h)⟩
theorem winF_ok {B : Bat3} {p : Str} {k : Int} {r : Int × Int} (h : BatOk B) (k0 : 0 ≤ k) (k1 : k < B.tins) (e : winF B p k = some r) : 0 ≤ r.1 ∧ r.1 ≤ r.2 := by
  unfold winF at e
  cases h2 : passF B.pas p with
  | none => rw [h2] at e; cases e
  | some q =>
    rw [h2] at e
    obtain ⟨r', e', h0⟩ := winPas_some (h.2.2.2.2 q (passF_mem h2).1) k0 k1
    have e : winPas q k = some r := e
    rw [e] at e'
    cases e'
    exact h0
/-! ### shuffled things, a pass drawn -/
def spShuf (K : PySem.W.Frag) : Sp := fun vs H Q _ => ∃ (b a : Addr) (t : Int) (xs : List V) (cs : List Addr) (ds : List PyData), vs = [.ref b, .ref a] ∧ Bx b H t ∧ t + 2000 < 2 ^ 40 ∧ SqH H a xs ∧ a ≠ b ∧ xs.length ≤ 100 ∧ b ∈ cs ∧ ThgL cs H xs ds ∧
  ∀ (l : Addr) (ys : List V) es t' H', H l = none → H' l = some (.lst ys) → ThgL cs H' ys es → es.Perm ds → t ≤ t' → t' ≤ t + xs.length → Bx b H' t' → Kb b H H' → Q (.ref l) H'
abbrev sShuf : Stmt := topS 31
theorem scShuf : FnScope ["_law_box_here", "_law_things", "_law_rest", "_law_turn"] ["_law_box_here", "_law_things"] (defScope sShuf) := ⟨rfl, rfl, rfl, by decide +kernel, rfl, by decide +kernel, by decide +kernel⟩
section
variable {K : PySem.W.Frag} {mg : Str → Option Value} {P : Program} {w : World} {base : Heap}
theorem ok_Shuf {f : Addr} {fd : FuncData} (F : Fun K "_law_shuffled" "_law_shuffled" sShuf f fd) (C__law_take : Cal P w K mg base 1 "_law_take" ["_law_box_here", "_law_many"] spTakeB) (m_list : mg "list" = none) (m_len : mg "len" = none) (m_range : mg "range" = none) : FnOk P w K mg base CX0 2 f fd ["_law_box_here", "_law_things"] (spShuf K) := by
  refine F.ok scShuf (fun vs H Q E h => ?_) (fun cdv A outer s H vs Q E hr h => ?_)
  · obtain ⟨b, a, t, xs, cs, ds, rfl, _⟩ := h
    rfl
  · obtain ⟨b, a, t, xs, cs, ds, rfl, hS, ht, ha, hab, hz, hbc, hx, q⟩ := h
    refine ⟨_, pss_cons (ps_set (i := 2) scShuf.nd rfl (.inr rfl) (pe_callTy call_list_of (by rfl) m_list (by decide +kernel) (pa_cons (pv 1) pa_nil)))
      (pss_one (ps_ret (pe_lc (own := [("_law_turn", 3)]) (g := (gName 3)) (tt := tYes) (te := (tBM K "list" rPopAt (tVar 2) (tCons (tCall spTakeB [] E0 (tCons (tVar 0) (tCons (tCB (fun xs H Q => ∃ p ys, xs = [.ref p] ∧ (SqL K H p ys ∨ SqT K H p ys) ∧ Q (.int ys.length) H) (tCons (tVar 2) tNil)) tNil))) tNil))) rfl scShuf.nd (pi_range1 rfl m_range (pa_cons (pe_callB call_len_seq (by rfl) m_len PySem.boot_len (pa_cons (pv 1) pa_nil)) pa_nil)) (blkOk_by (own := [("_law_turn", 3)]) (N := ["_law_box_here", "_law_things", "_law_rest", "_law_turn"]) (sc := defScope sShuf) (by decide +kernel)) (fun _ _ _ _ _ => (pg_name (i := 3) scShuf.nd rfl (.inl rfl))) (fun _ _ _ _ _ => pts_nil) (fun _ _ _ _ _ => (pe_bm PySem.F.plainAttrs_list PySem.F.slot_list_pop PySem.F.type_list_pop mt_popAt (pv 2) (pa_cons (pe_own C__law_take hr (by rfl) (pa_cons (pv 0) (pa_cons (pe_callB call_len_seq (by rfl) m_len PySem.boot_len (pa_cons (pv 2) pa_nil)) pa_nil))) pa_nil)))))), ?_⟩
    refine ⟨_, rfl, a, xs, rfl, ha.sq, fun p np => ?_⟩
    have sp := same_upd (o := .lst xs) np
    have offp := hS.off np
    have hx0 := ((hx.same sp).less (cs' := cs) fun _ z => z)
    have ha1 : SqH (upd H p (.lst xs)) a xs := ha.imp (fun e => sp _ _ e) (fun e => sp _ _ e)
    refine ⟨_, rfl, a, xs, rfl, ha1.sq, (xs.length : Int), rfl, by omega, by omega, fun D nD => ?_⟩
    have offD := (hS.same sp).off nD
    have nDp : D ≠ p := fun z => by rw [z, upd_same] at nD; cases nD
    have hxp : ThgL (p :: cs) (upd H p (.lst xs)) xs ds := (hx.more np).same sp
    have hxD : ThgL (D :: p :: cs) (upd H p (.lst xs)) xs ds := hxp.more nD
    have sD := same_upd (o := .lst []) nD
    refine lc_it (walk_range (lo := 0) (n := ((xs.length : Int)).toNat)) (fun i Hx => ∃ (t' : Int) (ws rs : List V) (es1 es2 : List PyData), Hx D = some (.lst ws) ∧ Hx p = some (.lst rs) ∧ ThgL (D :: p :: cs) Hx ws es1 ∧ ThgL (D :: p :: cs) Hx rs es2 ∧ (es1 ++ es2).Perm ds ∧ ws.length = i ∧ rs.length + i = xs.length ∧ t ≤ t' ∧ t' ≤ t + (i : Int) ∧ Bx b Hx t' ∧ Kb b H Hx)
      ⟨t, [], xs, [], ds, upd_same, sD _ _ upd_same, ThgL.nil, hxD.same sD, List.Perm.refl _, rfl, rfl, by omega, by omega, (hS.same sp).same sD, Kb.same (sp.trans sD)⟩ (fun i Hx _ hP => trivial) (fun i x Hx Hx' hi hP hy => ?_) (fun Hx hP => ?_)
    · obtain ⟨rfl, rfl⟩ := hy
      obtain ⟨t', ws, rs, es1, es2, eD, ep, hw, hr', hpm, hwl, hrl, v0, v1, hSx, kx⟩ := hP
      have hi' : i < xs.length := by omega
      refine ⟨rfl, _, rfl, .inl ⟨rfl, _, SqL.of ep⟩, _, rfl, _, rfl, p, rs, rfl, .inl (SqL.of ep), b, t', _, rfl, hSx, by omega, by omega, by omega, fun r t2 H2 r0 r1 u0 u1 hS2 k2 => ?_⟩
      obtain ⟨j, rfl⟩ := Int.eq_ofNat_of_zero_le r0
      have jl : j < rs.length := by omega
      have ep2 := k2 _ _ offp ep
      have eD2 := k2 _ _ offD eD
      have hw2 := hw.kb hSx k2 (by simp [hbc])
      have hr2 := hr'.kb hSx k2 (by simp [hbc])
      obtain ⟨d, ed, hd⟩ := hr2.at (List.getElem?_eq_getElem jl)
      have jl2 : j < es2.length := by rw [← hr2.1]; exact jl
      have jd : es2[j] = d := by rw [List.getElem?_eq_getElem jl2] at ed; exact Option.some.inj ed
      have hix : seqIndex? (j : Int) rs.length = some j := (ixN_seq (ixN_of jl)).1
      refine ⟨p, rs, j, j, rs[j], rfl, rfl, ep2, by omega, by omega, hix, List.getElem?_eq_getElem jl, ?_⟩
      have eD3 : upd H2 p (.lst (rs.eraseIdx j)) D = some (.lst ws) := by rw [upd_ne nDp]; exact eD2
      have hdr : ThgL (D :: p :: cs) H2 (rs.eraseIdx j) (es2.eraseIdx j) := by
        rw [List.eraseIdx_eq_take_drop_succ, List.eraseIdx_eq_take_drop_succ]
        exact (hr2.take j).append (hr2.drop (j + 1))
      have up : ∀ {vs : List V} {es : List PyData}, ThgL (D :: p :: cs) H2 vs es → ThgL (D :: p :: cs) (upd (upd H2 p (.lst (rs.eraseIdx j))) D (.lst (ws ++ [rs[j]]))) vs es := fun h => (h.upd ep2 (by simp)).upd eD3 (by simp)
      refine ⟨ws, eD3, Nat.lt_of_lt_of_le (show ws.length < 1000 by omega) (by decide), t2, ws ++ [rs[j]], rs.eraseIdx j, es1 ++ [d], es2.eraseIdx j, upd_same, by rw [upd_ne nDp.symm, upd_same], up (hw2.append (ThgL.one hd)), up hdr, ?_, by rw [List.length_append, hwl]; rfl, by rw [List.length_eraseIdx_of_lt jl]; omega, by omega, by omega, (hS2.upd offp).upd offD, fun a' o na ea => ?_⟩
      · refine List.Perm.trans ?_ hpm
        rw [List.append_assoc]
        refine List.Perm.append_left _ ?_
        have e : es2 = es2.take j ++ d :: es2.drop (j + 1) := by
          rw [← jd, ← List.drop_eq_getElem_cons jl2, List.take_append_drop]
        rw [List.eraseIdx_eq_take_drop_succ]
        conv => rhs; rw [e]
        exact (List.perm_middle (l₁ := es2.take j) (a := d) (l₂ := es2.drop (j + 1))).symm
      · rw [upd_ne (ne_of_none (sp _ _ ea) nD), upd_ne (ne_of_none ea np)]
        exact k2 _ _ na (kx a' o na ea)
    · obtain ⟨t', ws, rs, es1, es2, eD, ep, hw, hr', hpm, hwl, hrl, v0, v1, hSx, kx⟩ := hP
      have e0 : rs = [] := List.eq_nil_of_length_eq_zero (by omega)
      subst e0
      have e1 : es2 = [] := List.eq_nil_of_length_eq_zero (by rw [← hr'.1]; rfl)
      subst e1
      rw [List.append_nil] at hpm
      exact q D ws es1 t' Hx (sp.free nD) eD (hw.less fun _ z => List.mem_cons_of_mem _ (List.mem_cons_of_mem _ z)) hpm v0 (by omega) hSx kx
end
def spPass3 : Sp := fun vs H Q _ => ∃ (b : Addr) (t n : Int) (p : Str), vs = [.ref b, .str p, .int n] ∧ Bx b H t ∧ t + 200 < 2 ^ 40 ∧ 1 ≤ n ∧ n ≤ 30 ∧ TxS 20 p ∧
  ∀ v (x : Pas3) t' H', (∀ cs : List Addr, (∀ c ∈ cs, H c ≠ none) → Thg cs H' v (pasD x)) → PasOk n x → PasSm x → t ≤ t' → t' ≤ t + 130 → Bx b H' t' → Kb b H H' → Q v H'
abbrev sPass : Stmt := topS 32
theorem scPass : FnScope ["_law_box_here", "_law_place", "_law_tins", "_law_per", "_law_stays", "_law_k", "_law_first"] ["_law_box_here", "_law_place", "_law_tins"] (defScope sPass) := ⟨rfl, rfl, rfl, by decide +kernel, rfl, by decide +kernel, by decide +kernel⟩
section
variable {K : PySem.W.Frag} {mg : Str → Option Value} {P : Program} {w : World} {base : Heap}
theorem ok_Pass {f : Addr} {fd : FuncData} (F : Fun K "_law_pass" "_law_pass" sPass f fd) (C__law_take : Cal P w K mg base 1 "_law_take" ["_law_box_here", "_law_many"] spTakeB) (m_range : mg "range" = none) : FnOk P w K mg base CX0 2 f fd ["_law_box_here", "_law_place", "_law_tins"] spPass3 := by
  refine F.ok scPass (fun vs H Q E h => ?_) (fun cdv A outer s H vs Q E hr h => ?_)
  · obtain ⟨b, t, n, p, rfl, _⟩ := h
    rfl
  · obtain ⟨b, t, n, p, rfl, hS, ht, hn0, hn1, hp, q⟩ := h
    refine ⟨_, pss_cons (ps_if (pt_cmpR op_eq (pe_own C__law_take hr (by rfl) (pa_cons (pv 0) (pa_cons pe_int pa_nil))) pe_int (nomark _)) (pss_one (ps_ret (pe_tup (pa_cons pe_str (pa_cons (pv 1) (pa_cons (pe_own C__law_take hr (by rfl) (pa_cons (pv 0) (pa_cons pe_int pa_nil))) (pa_cons (pe_own C__law_take hr (by rfl) (pa_cons (pv 0) (pa_cons pe_int pa_nil))) (pa_cons (pe_op op_add pe_int (pe_own C__law_take hr (by rfl) (pa_cons (pv 0) (pa_cons pe_int pa_nil)))) pa_nil))))))))
        pss_nil)
      (pss_cons (ps_par rfl scPass.nd (i := 3) (j := 4) rfl rfl (by decide) rfl rfl (pa_cons (pe_op op_add pe_int (pe_own C__law_take hr (by rfl) (pa_cons (pv 0) (pa_cons (pv 2) pa_nil)))) (pa_cons (pe_lst pa_nil) pa_nil)) (by rfl))
      (pss_cons (ps_for PassesOwn.never rfl (pi_range1 rfl m_range (pa_cons (pe_op op_fdivW (pe_op op_sub (pe_op op_add (pv 2) (pv 3)) pe_int) (pv 3)) pa_nil)) (pg_name (i := 5) scPass.nd rfl (.inl rfl))
        (pss_cons (ps_set (i := 6) scPass.nd rfl (.inl rfl) (pe_own C__law_take hr (by rfl) (pa_cons (pv 0) (pa_cons pe_int pa_nil))))
        (pss_one (ps_expr (pe_bm PySem.F.plainAttrs_list PySem.F.slot_list_append PySem.F.type_list_append mt_append (pv 4) (pa_cons (pe_tup (pa_cons (pv 6) (pa_cons (pe_op op_add (pv 6) (pe_ix ix_list (pe_lst (pa_cons pe_int (pa_cons (pe_own C__law_take hr (by rfl) (pa_cons (pv 0) (pa_cons pe_int pa_nil))) (pa_cons (pe_own C__law_take hr (by rfl) (pa_cons (pv 0) (pa_cons pe_int pa_nil))) pa_nil)))) (pe_own C__law_take hr (by rfl) (pa_cons (pv 0) (pa_cons pe_int pa_nil))) (fun _ _ => rfl))) pa_nil))) pa_nil))))))
      (pss_one (ps_ret (pe_tup (pa_cons pe_str (pa_cons (pv 1) (pa_cons (pv 3) (pa_cons (pv 4) pa_nil))))))))), ?_⟩
    refine ⟨_, rfl, b, t, 2, rfl, hS, by omega, by decide, by decide, fun c0 t1 H1 c00 c01 u0 u1 hS1 k1 => ⟨rfl, _, rfl, ite2 (fun _ => ?_) (fun _ => ?_)⟩⟩
    · refine ⟨_, rfl, _, rfl, b, t1, 14, rfl, hS1, by omega, by decide, by decide, fun s1 t2 H2 s10 s11 u2 u3 hS2 k2 => ?_⟩
      refine ⟨_, rfl, b, t2, 3, rfl, hS2, by omega, by decide, by decide, fun l1 t3 H3 l10 l11 u4 u5 hS3 k3 => ?_⟩
      refine ⟨_, rfl, b, t3, 3, rfl, hS3, by omega, by decide, by decide, fun b1 t4 H4 b10 b11 u6 u7 hS4 k4 => ⟨_, _, rfl, rfl, (by show 5 ≤ sizeLine; decide), fun T nT => ?_⟩⟩
      have sT := same_upd (o := .tup [.str "line", .str p, .int s1, .int l1, .int (1 + b1)]) nT
      have e75 : Big = 10 ^ 75 := rfl
      exact q _ (.line p s1 l1 (1 + b1)) t4 _ (fun _ _ => ThgL.tup (.cons (.str _) (.cons (.str _) (.cons (.int _) (.cons (.int _) (.one (.int _)))))) upd_same) ⟨hp, by omega, by omega, by omega, by omega, by omega, by omega⟩ ⟨by omega, by omega⟩ (by omega) (by omega) (hS4.same sT) ((((k1.trans k2).trans k3).trans k4).trans (Kb.same sT))
    · refine ⟨_, rfl, _, rfl, b, t1, n, rfl, hS1, by omega, by omega, by omega, fun r1 t2 H2 r10 r11 u2 u3 hS2 k2 => ⟨_, _, rfl, rfl, Nat.zero_le _, fun L nL => ⟨_, _, rfl, ?_⟩⟩⟩
      have sL := same_upd (o := .lst []) nL
      have offL := hS2.off nL
      have nLH : H L = none := (k1.trans k2).free hS2 nL
      have e75 : Big = 10 ^ 75 := rfl
      have hper : 1 ≤ 1 + r1 := by omega
      have d0 : 0 ≤ (n + (1 + r1) - 1) / (1 + r1) := Int.ediv_nonneg (by omega) (by omega)
      have d1 : (n + (1 + r1) - 1) / (1 + r1) ≤ n := by
        refine Int.le_of_lt_add_one ((Int.ediv_lt_iff_lt_mul (by omega)).mpr ?_)
        have : (n + 1) * (1 + r1) = n * (1 + r1) + (1 + r1) := by rw [Int.add_mul, Int.one_mul]
        have := Int.mul_le_mul_of_nonneg_left (show 1 ≤ 1 + r1 by omega) (show 0 ≤ n by omega)
        omega
      obtain ⟨mn, hmn⟩ := Int.eq_ofNat_of_zero_le d0
      refine ⟨_, rfl, _, rfl, _, _, rfl, rfl, _, 1, rfl, rfl, _, rfl, _, _, rfl, rfl, divw (by omega) (by omega), (mn : Int), by show [V.int ((n + (1 + r1) - 1) / (1 + r1))] = _; rw [hmn], by omega, by omega, for_range (n := ((mn : Int)).toNat) (fun i σ Hx => ∃ (t' : Int) (us : List V) (ps : List (Int × Int)) (y5 y6 : Option V), σ = [some (.ref b), some (.str p), some (.int n), some (.int (1 + r1)), some (.ref L), y5, y6] ∧ Hx L = some (.lst us) ∧ Prs Hx us ps ∧ ps.length = i ∧ (∀ r ∈ ps, 0 ≤ r.1 ∧ r.1 ≤ r.2 ∧ r.2 < 100) ∧ t2 ≤ t' ∧ t' ≤ t2 + 4 * (i : Int) ∧ Bx b Hx t' ∧ Kb b H Hx)
        ⟨t2, [], [], _, _, rfl, upd_same, Prs.nil, rfl, (fun _ z => nomatch z), by omega, by omega, hS2.same sL, (k1.trans k2).trans (Kb.same sL)⟩ (fun i σ Hx hi hP => ?_) (fun σ Hx hP => ?_)⟩
      · obtain ⟨t', us, ps, y5, y6, rfl, eL, hp', hpl, hpo, v0, v1, hSx, kx⟩ := hP
        have hi30 : (i : Int) < 30 := by omega
        refine ⟨_, rfl, b, t', 18, rfl, hSx, by omega, by decide, by decide, fun f1 t3 H3 f10 f11 w0 w1 hS3 k3 => ?_⟩
        refine ⟨_, rfl, .inl ⟨rfl, _, SqL.of (k3 _ _ offL eL)⟩, _, rfl, _, rfl, _, rfl, b, t3, 4, rfl, hS3, by omega, by decide, by decide, fun a1 t4 H4 a10 a11 w2 w3 hS4 k4 => ?_⟩
        refine ⟨_, rfl, b, t4, 9, rfl, hS4, by omega, by decide, by decide, fun a2 t5 H5 a20 a21 w4 w5 hS5 k5 => ⟨(by show 3 ≤ sizeLine; decide), fun Y nY => ?_⟩⟩
        have sY := same_upd (o := .lst [.int 0, .int a1, .int a2]) nY
        refine ⟨_, rfl, b, t5, 3, rfl, hS5.same sY, by omega, by decide, by decide, fun a3 t6 H6 a30 a31 w6 w7 hS6 k6 => ?_⟩
        have eY := k6.new (hS5.off nY)
        obtain ⟨v, ev, hv⟩ := pick_at (xs := [V.int 0, V.int a1, V.int a2]) (n := 3) rfl a30 (by omega)
        obtain ⟨c1, rfl, c10, c11⟩ : ∃ c1 : Int, v = .int c1 ∧ 0 ≤ c1 ∧ c1 < 9 := by
          simp only [List.mem_cons, List.not_mem_nil, or_false] at hv
          rcases hv with rfl | rfl | rfl
          · exact ⟨_, rfl, by decide, by decide⟩
          · exact ⟨_, rfl, by omega, by omega⟩
          · exact ⟨_, rfl, by omega, by omega⟩
        refine ⟨Y, _, _, _, rfl, rfl, SqL.of eY, ev, _, _, rfl, rfl, (by show 2 ≤ sizeLine; decide), fun T nT => ?_⟩
        have sT := same_upd (o := .tup [.int f1, .int (f1 + c1)]) nT
        have k06 := (((k3.trans k4).trans k5).trans (Kb.same sY)).trans k6
        have eL6 := k06 _ _ offL eL
        have hSx' := hSx
        have hp6 : Prs H6 us ps := (ThgL.kb (cs := [b]) (prs_thg hp') hSx k06 (by simp)).prs
        have hlu : us.length = i := by rw [hp'.1, hpl]
        refine ⟨L, _, _, rfl, rfl, sT _ _ eL6, small1000 (by omega), t6, _, ps ++ [(f1, f1 + c1)], _, _, rfl, upd_same, ((hp6.same sT).snoc upd_same).upd_lst (sT _ _ eL6), by rw [List.length_append, hpl]; rfl, fun r hr => ?_, by omega, by omega, (hS6.same sT).upd offL, fun a o na ea => ?_⟩
        · rcases List.mem_append.mp hr with y | y
          · exact hpo r y
          · rw [List.mem_singleton.mp y]
            exact ⟨f10, by show f1 ≤ f1 + c1; omega, by show f1 + c1 < 100; omega⟩
        · rw [upd_ne (ne_of_none ea nLH)]
          exact sT _ _ (k06 _ _ na (kx a o na ea))
      · obtain ⟨t', us, ps, y5, y6, rfl, eL, hp', hpl, hpo, v0, v1, hSx, kx⟩ := hP
        refine ⟨_, rfl, _, rfl, _, rfl, (by show 4 ≤ sizeLine; decide), fun T nT => ?_⟩
        have sT := same_upd (o := .tup [.str "racks", .str p, .int (1 + r1), .ref L]) nT
        refine q _ (.racks p (1 + r1) ps) t' _ (fun cs hcs => ThgL.tup (.cons (.str _) (.cons (.str _) (.cons (.int _) (.one (((prs_thg hp').same sT).lst (sT _ _ eL) (fun z => hcs L z nLH)))))) upd_same) ⟨hp, hper, by omega, by rw [hpl, hmn]; omega, by omega, fun r hr => ?_⟩ (fun r hr => (hpo r hr).2.2) (by omega) (by omega) (hSx.same sT) (kx.trans (Kb.same sT))
        have := hpo r hr
        omega
end

/-! ### batches drawn -/
def spBats3 : Sp := fun vs H Q _ => ∃ (b a : Addr) (t m : Int) (ps : List Str), vs = [.ref b, .ref a, .int m] ∧ Bx b H t ∧ t + 100000 < 2 ^ 40 ∧ 0 ≤ m ∧ m ≤ 12 ∧ H a = some (.lst (ps.map V.str)) ∧ a ≠ b ∧ ps.length ≤ 5 ∧ (∀ p ∈ ps, TxS 20 p) ∧
  ∀ v (bs : List Bat3) t' H', Thg [b] H' v (.list (bs.map batD)) → (∀ B ∈ bs, BatOk B ∧ B.tins ≤ 8 ∧ B.pas.length ≤ 5 ∧ ∀ q ∈ B.pas, PasSm q) → (bs.map Bat3.mark).Nodup → (bs.length : Int) = m → t ≤ t' → t' ≤ t + 20000 → Bx b H' t' → Kb b H H' → Q v H'
abbrev sBats : Stmt := topS 33
theorem scBats : FnScope ["_law_box_here", "_law_places_here", "_law_many", "_law_found", "_law_mark", "_law_tins", "_law_some", "_law_place"] ["_law_box_here", "_law_places_here", "_law_many"] (defScope sBats) := ⟨rfl, rfl, rfl, by decide +kernel, rfl, by decide +kernel, by decide +kernel⟩
section
variable {K : PySem.W.Frag} {mg : Str → Option Value} {P : Program} {w : World} {base : Heap}
theorem ok_Bats {f : Addr} {fd : FuncData} (F : Fun K "_law_batches" "_law_batches" sBats f fd) (C__law_marks : Cal P w K mg base 2 "_law_marks" ["_law_box_here", "_law_many"] spMarks3) (C__law_take : Cal P w K mg base 1 "_law_take" ["_law_box_here", "_law_many"] spTakeB) (C__law_shuffled : Cal P w K mg base 2 "_law_shuffled" ["_law_box_here", "_law_things"] (spShuf K)) (C__law_pass : Cal P w K mg base 2 "_law_pass" ["_law_box_here", "_law_place", "_law_tins"] spPass3) : FnOk P w K mg base CX0 3 f fd ["_law_box_here", "_law_places_here", "_law_many"] spBats3 := by
  refine F.ok scBats (fun vs H Q E h => ?_) (fun cdv A outer s H vs Q E hr h => ?_)
  · obtain ⟨b, a, t, m, ps, rfl, _⟩ := h
    rfl
  · obtain ⟨b, a, t, m, ps, rfl, hS, ht, hm0, hm1, ha, hab, hpl, hpo, q⟩ := h
    refine ⟨_, pss_cons (ps_set (i := 3) scBats.nd rfl (.inl rfl) (pe_lst pa_nil))
      (pss_cons (ps_for PassesOwn.never rfl (pi_list (pe_own C__law_marks hr (by rfl) (pa_cons (pv 0) (pa_cons (pv 2) pa_nil)))) (pg_name (i := 4) scBats.nd rfl (.inl rfl))
        (pss_cons (ps_asg (pe_tup (pa_cons (pe_op op_add pe_int (pe_own C__law_take (hr.mono (show 1 ≤ 2 by decide)) (by rfl) (pa_cons (pv 0) (pa_cons pe_int pa_nil)))) (pa_cons (pe_own C__law_shuffled hr (by rfl) (pa_cons (pv 0) (pa_cons (pv 1) pa_nil))) pa_nil))) (pg_tup rfl (pgs_cons (pg_name (i := 5) scBats.nd rfl (.inr rfl)) (pgs_cons (pg_name (i := 6) scBats.nd rfl (.inl rfl)) pgs_nil))))
        (pss_cons (ps_setLc (i := 6) (own := [("_law_place", 7)]) (g := (gName 7)) (tt := (tTest (tOp (rI0 fun i j => .bl (decide (j < i))) (tCall spTakeB [] E0 (tCons (tVar 0) (tCons (tC (.int 6)) tNil))) (tC (.int 0))))) (te := (tVar 7)) rfl scBats.nd rfl rfl (sw_true rfl rfl rfl (by decide +kernel)) (pi_list (pv 6)) (blkOk_by (own := [("_law_place", 7)]) (N := ["_law_box_here", "_law_places_here", "_law_many", "_law_found", "_law_mark", "_law_tins", "_law_some", "_law_place"]) (sc := defScope sBats) (by decide +kernel)) (fun _ _ _ _ _ => (pg_name (i := 7) scBats.nd rfl (.inl rfl))) (fun _ _ _ _ _ => (pts_one (pt_cmpR op_gt (pe_own C__law_take (hr.mono (show 1 ≤ 2 by decide)) (by rfl) (pa_cons (pv 0) (pa_cons pe_int pa_nil))) pe_int (nomark _)))) (fun _ _ _ _ _ => (pv 7)))
        (pss_one (ps_expr (pe_bm PySem.F.plainAttrs_list PySem.F.slot_list_append PySem.F.type_list_append mt_append (pv 3) (pa_cons (pe_tup (pa_cons (pv 4) (pa_cons (pv 5) (pa_cons (pe_lc (own := [("_law_place", 7)]) (g := (gName 7)) (tt := tYes) (te := (tCall spPass3 [] E0 (tCons (tVar 0) (tCons (tVar 7) (tCons (tVar 5) tNil))))) rfl scBats.nd (pi_list (pv 6)) (blkOk_by (own := [("_law_place", 7)]) (N := ["_law_box_here", "_law_places_here", "_law_many", "_law_found", "_law_mark", "_law_tins", "_law_some", "_law_place"]) (sc := defScope sBats) (by decide +kernel)) (fun _ _ _ _ _ => (pg_name (i := 7) scBats.nd rfl (.inl rfl))) (fun _ _ _ _ _ => pts_nil) (fun _ _ _ _ _ => (pe_own C__law_pass hr (by rfl) (pa_cons (pv 0) (pa_cons (pv 7) (pa_cons (pv 5) pa_nil)))))) pa_nil)))) pa_nil)))))))
      (pss_one (ps_ret (pv 3)))), ?_⟩
    refine ⟨Nat.zero_le _, fun p np => ?_⟩
    have sp := same_upd (o := .lst []) np
    have offp := hS.off np
    refine ⟨_, rfl, _, rfl, b, t, m, rfl, hS.same sp, by omega, hm0, by omega, fun l xs t1 H1 nl el hxo hxd hxl u0 u1 hS1 k1 => ⟨l, rfl, ⟨_, SqL.of el⟩, ?_⟩⟩
    have ep1 := k1.new offp
    have k01 := (Kb.same sp).trans k1
    have offl := (hS.same sp).off nl
    have nlp : l ≠ p := fun z => by rw [z, upd_same] at nl; cases nl
    refine for_list (xs := xs.map V.str) (fun i σ Hx => ∃ (t' : Int) (us : List V) (bs : List Bat3) (y4 y5 y6 y7 : Option V), σ = [some (.ref b), some (.ref a), some (.int m), some (.ref p), y4, y5, y6, y7] ∧ Hx p = some (.lst us) ∧ ThgL [p, b] Hx us (bs.map batD) ∧ bs.map Bat3.mark = xs.take i ∧ (∀ B ∈ bs, BatOk B ∧ B.tins ≤ 8 ∧ B.pas.length ≤ 5 ∧ ∀ q ∈ B.pas, PasSm q) ∧ t1 ≤ t' ∧ t' ≤ t1 + 1000 * (i : Int) ∧ Bx b Hx t' ∧ Kb b H Hx ∧ Hx l = some (.lst (xs.map V.str)))
      ⟨t1, [], [], _, _, _, _, rfl, ep1, ThgL.nil, rfl, (fun _ z => nomatch z), by omega, by omega, hS1, k01, el⟩ (fun i σ Hx _ hP => ?_) (fun i x σ Hx hx hP => ?_) (fun σ Hx hP => ?_)
    · obtain ⟨t', us, bs, y4, y5, y6, y7, rfl, ep, hu, hmk, hok, v0, v1, hSx, kx, elx⟩ := hP
      exact SqL.of elx
    · obtain ⟨t', us, bs, y4, y5, y6, y7, rfl, ep, hu, hmk, hok, v0, v1, hSx, kx, elx⟩ := hP
      have hi : i < xs.length := by
        have := (List.getElem?_eq_some_iff.mp hx).1
        rwa [List.length_map] at this
      rw [List.getElem?_map, List.getElem?_eq_getElem hi] at hx
      cases hx
      have hi12 : (i : Int) < 12 := by omega
      refine ⟨_, rfl, b, t', 8, rfl, hSx, by omega, by decide, by decide, fun r1 t2 H2 r10 r11 w0 w1 hS2 k2 => ⟨_, _, rfl, rfl, ?_⟩⟩
      have ea2 := k2 _ _ hab (kx _ _ hab ha)
      refine ⟨_, rfl, _, rfl, b, a, t2, ps.map V.str, [b], ps.map PyData.str, rfl, hS2, by omega, .inl ea2, hab, by rw [List.length_map]; omega, by simp, thg_strs, fun S ys es t3 H3 nS eS hys hpm w2 w3 hS3 k3 => ⟨(by show 2 ≤ sizeLine; decide), fun T nT => ⟨T, _, rfl, .inl (.inl upd_same), rfl, _, _, rfl, _, _, rfl, rfl, ?_⟩⟩⟩
      have sT := same_upd (o := .tup [.int (1 + r1), .ref S]) nT
      have offS := hS2.off nS
      rw [List.length_map] at w3
      -- the places are some of these
      obtain ⟨qs, hqs, hqp, hql⟩ : ∃ qs : List Str, es = qs.map PyData.str ∧ (∀ q ∈ qs, TxS 20 q) ∧ qs.length = ps.length := by
        have all : ∀ e ∈ es, ∃ q : Str, e = .str q ∧ TxS 20 q := fun e he => by
          obtain ⟨q', hq', rfl⟩ := List.mem_map.mp (hpm.mem_iff.mp he)
          exact ⟨q', rfl, hpo q' hq'⟩
        refine ⟨es.map fun e => match e with | .str q => q | _ => ⟨#[]⟩, ?_, fun q hq => ?_, by rw [List.length_map, hpm.length_eq, List.length_map]⟩
        · rw [List.map_map]
          refine (List.map_id es).symm.trans (List.map_congr_left fun e he => ?_)
          obtain ⟨q', rfl, _⟩ := all e he
          rfl
        · obtain ⟨e, he, rfl⟩ := List.mem_map.mp hq
          obtain ⟨q', rfl, h⟩ := all e he
          exact h
      subst hqs
      have eys := ThgL.strs hys
      subst eys
      have eS3 := sT _ _ eS
      have hS3' := hS3.same sT
      have k23 := (k2.trans k3).trans (Kb.same sT)
      refine ⟨_, rfl, S, rfl, ⟨_, SqL.of eS3⟩, fun D nD => ?_⟩
      have offD := hS3'.off nD
      refine lc_bxF (α := Str) PyData.str (TxS 20) 1 (walk_list (xs := qs.map V.str)) [b] (by simp) (fun c hc => by rw [List.mem_singleton.mp hc]; exact hS3'.ne) hS3' nD (by rw [List.length_map]; omega) (fun H' k _ => SqL.of (k _ _ offS eS3)) (fun j x H4 H4' t4 Kt Kn hj w4 w5 hS4 k4 _ hy kt kn => ?_) (fun H5 t5 zs hzl hz w4 w5 hS5 k5 hD => ?_)
      · obtain ⟨rfl, hx4⟩ := hy
        have hj' : j < qs.length := by rw [List.length_map] at hj; exact hj
        rw [List.getElem?_map, List.getElem?_eq_getElem hj'] at hx4
        cases hx4
        refine ⟨rfl, _, rfl, b, t4, 6, rfl, hS4, by omega, by decide, by decide, fun r3 t5 H5 r30 r31 w6 w7 hS5 k5 => ⟨r3, 0, rfl, rfl, _, rfl, ite2 (fun _ => ?_) (fun _ => ?_)⟩⟩
        · exact ⟨_, rfl, kt _ _ t5 H5 (hqp _ (List.getElem_mem hj')) (.str _) w6 w7 hS5 k5⟩
        · exact kn t5 H5 w6 w7 hS5 k5
      have ez : ∃ zv, H5 D = some (.lst zv) ∧ zv = zs.map V.str := by
        obtain ⟨_, zv, e, eD, _, hzv⟩ := hD.list
        cases e
        exact ⟨zv, eD, hzv.strs⟩
      obtain ⟨_, eD5, rfl⟩ := ez
      have hzl5 : zs.length ≤ 5 := by rw [List.length_map] at hzl; omega
      rw [List.length_map] at w5
      have nTp := k23.trans k5
      have ep5 := nTp _ _ offp ep
      have el5 := nTp _ _ offl elx
      have k05 := kx.trans nTp
      have hu5 := hu.kb hSx nTp (by simp)
      refine ⟨_, rfl, .inl ⟨rfl, _, SqL.of ep5⟩, _, rfl, _, rfl, _, rfl, D, rfl, ⟨_, SqL.of eD5⟩, fun G nG => ?_⟩
      have offG := hS5.off nG
      have old5 : ∀ c ∈ [p, b], H5 c ≠ none := fun c hc z => by
        rcases List.mem_cons.mp hc with e | e
        · rw [e, ep5] at z; cases z
        · rw [List.mem_singleton.mp e] at z; exact hS5.ne z
      refine lc_bx (α := Pas3) pasD (fun _ q => PasOk (1 + r1) q ∧ PasSm q) 130 (walk_list (xs := zs.map V.str)) [p, b] (by simp) old5 hS5 nG (by rw [List.length_map]; omega) (fun H' k _ => SqL.of (k _ _ offD eD5)) (fun j x H6 H6' t6 Kt Kn hj w6 w7 hS6 k6 od hy kt => ?_) (fun H6 t6 qz hqzl hqz w6 w7 hS6 k6 hG => ?_)
      · obtain ⟨rfl, hx6⟩ := hy
        have hj' : j < zs.length := by rw [List.length_map] at hj; exact hj
        rw [List.getElem?_map, List.getElem?_eq_getElem hj'] at hx6
        cases hx6
        have hj5 : (j : Int) < 5 := by omega
        exact ⟨rfl, _, rfl, _, rfl, _, rfl, b, t6, 1 + r1, zs[j], rfl, hS6, by omega, by omega, by omega, hz _ (List.getElem_mem hj'), fun v x t7 H7 hv hvo hvs w8 w9 hS7 k7 => kt x v t7 H7 ⟨hvo, hvs⟩ (hv _ od) w8 w9 hS7 k7⟩
      · rw [List.length_map] at hqzl w7
        refine ⟨(by show 3 ≤ sizeLine; decide), fun Y nY => ?_⟩
        have sY := same_upd (o := .tup [.str xs[i], .int (1 + r1), .ref G]) nY
        have ep6 := k6 _ _ offp ep5
        have hul : us.length = i := by rw [hu.1, List.length_map, ← List.length_map (f := Bat3.mark), hmk, List.length_take]; omega
        have hB : Thg [p, b] (upd H6 Y (.tup [.str xs[i], .int (1 + r1), .ref G])) (.ref Y) (batD ⟨xs[i], 1 + r1, qz⟩) := ThgL.tup (.cons (.str _) (.cons (.int _) (.one (hG.same sY)))) upd_same
        have hu6 := (hu5.kb hS5 k6 (by simp)).same sY
        refine ⟨p, _, _, rfl, rfl, sY _ _ ep6, small1000 (by omega), t6, _, bs ++ [⟨xs[i], 1 + r1, qz⟩], _, _, _, _, rfl, upd_same, ?_, ?_, fun B hB' => ?_, by omega, by omega, (hS6.same sY).upd offp, fun a' o na ea => ?_, ?_⟩
        · rw [List.map_append]
          exact (hu6.upd (sY _ _ ep6) (by simp)).append (ThgL.one (hB.upd (sY _ _ ep6) (by simp)))
        · rw [List.map_append, hmk, List.take_add_one, List.getElem?_eq_getElem hi]
          rfl
        · rcases List.mem_append.mp hB' with y | y
          · exact hok B y
          · rw [List.mem_singleton.mp y]
            have e75 : Big = 10 ^ 75 := rfl
            refine ⟨⟨hxo _ (List.getElem_mem hi), by show 1 ≤ 1 + r1; omega, by show 1 + r1 < Big; omega, by show qz.length ≤ 40; omega, fun q hq => ?_⟩, by show 1 + r1 ≤ 8; omega, by show qz.length ≤ 5; omega, fun q hq => ?_⟩
            · obtain ⟨j, hj⟩ := List.getElem?_of_mem hq
              exact (hqz j q hj).1
            · obtain ⟨j, hj⟩ := List.getElem?_of_mem hq
              exact (hqz j q hj).2
        · rw [upd_ne (ne_of_none ea np)]
          exact sY _ _ (k6 _ _ na (k05 a' o na ea))
        · rw [upd_ne nlp]
          exact sY _ _ (k6 _ _ offl el5)
    · obtain ⟨t', us, bs, y4, y5, y6, y7, rfl, ep, hu, hmk, hok, v0, v1, hSx, kx, elx⟩ := hP
      rw [List.length_map] at hmk v1
      rw [List.take_length] at hmk
      exact ⟨_, rfl, q _ bs t' Hx ((hu.less (by simp)).lst ep (by simp; exact offp)) hok (by rw [hmk]; exact hxd) (by rw [← hxl, ← hmk, List.length_map]) (by omega) (by omega) hSx kx⟩
end

/-! ### windows -/
/-- a batch, its passes a list or a tuple -/
def BatR (B : Bat3) (d : PyData) : Prop := ∃ rd, d = .tuple [.str B.mark, .int B.tins, rd] ∧ rowOf rd = some (B.pas.map pasD)
theorem batR {B : Bat3} : BatR B (batD B) := ⟨_, rfl, rfl⟩
theorem Thg.bat {cs : List Addr} {H : Hp} {v : V} {B : Bat3} {d : PyData} (h : Thg cs H v d) (r : BatR B d) : ∃ a p xs, v = .ref a ∧ H a = some (.tup [.str B.mark, .int B.tins, .ref p]) ∧ SqH H p xs ∧ ThgL cs H xs (B.pas.map pasD) := by
  obtain ⟨rd, rfl, hr⟩ := r
  obtain ⟨a, xs, rfl, e, h1⟩ := h.tuple
  obtain ⟨x, ys, rfl, h2, h3⟩ := h1.inv
  obtain ⟨y, zs, rfl, h4, h5⟩ := h3.inv
  obtain ⟨z, ws, rfl, h6, h7⟩ := h5.inv
  rw [h7.inv0, h2.inv_str, h4.inv_int] at e
  obtain ⟨p, us, rfl, h8, h9⟩ := h6.row hr
  exact ⟨a, p, us, rfl, e, h8, h9⟩
def optPas : Option Pas3 → PyData
  | none => .none
  | some q => pasD q
/-- a pass, told by its kind -/
theorem Thg.pasL {cs : List Addr} {H : Hp} {v : V} {p : Str} {s l b : Int} (h : Thg cs H v (pasD (.line p s l b))) : ∃ a, v = .ref a ∧ H a = some (.tup [.str "line", .str p, .int s, .int l, .int b]) := by
  obtain ⟨a, xs, rfl, e, h1⟩ := h.tuple
  obtain ⟨x, ys, rfl, h2, h3⟩ := h1.inv
  obtain ⟨y, zs, rfl, h4, h5⟩ := h3.inv
  obtain ⟨z, ws, rfl, h6, h7⟩ := h5.inv
  obtain ⟨u, vs, rfl, h8, h9⟩ := h7.inv
  obtain ⟨w, us, rfl, h10, h11⟩ := h9.inv
  rw [h11.inv0, h2.inv_str, h4.inv_str, h6.inv_int, h8.inv_int, h10.inv_int] at e
  exact ⟨a, rfl, e⟩
theorem Thg.pasR {cs : List Addr} {H : Hp} {v : V} {p : Str} {per : Int} {st : List (Int × Int)} (h : Thg cs H v (pasD (.racks p per st))) : ∃ a l us, v = .ref a ∧ H a = some (.tup [.str "racks", .str p, .int per, .ref l]) ∧ H l = some (.lst us) ∧ ThgL cs H us (st.map pairD) := by
  obtain ⟨a, xs, rfl, e, h1⟩ := h.tuple
  obtain ⟨x, ys, rfl, h2, h3⟩ := h1.inv
  obtain ⟨y, zs, rfl, h4, h5⟩ := h3.inv
  obtain ⟨z, ws, rfl, h6, h7⟩ := h5.inv
  obtain ⟨u, vs, rfl, h8, h9⟩ := h7.inv
  obtain ⟨l, us, rfl, e2, _, h10⟩ := h8.list
  rw [h9.inv0, h2.inv_str, h4.inv_str, h6.inv_int] at e
  exact ⟨a, l, us, rfl, e, e2, h10⟩
theorem Thg.pas {cs : List Addr} {H : Hp} {v : V} {q : Pas3} (h : Thg cs H v (pasD q)) : ∃ a x r, v = .ref a ∧ H a = some (.tup (x :: .str q.pl :: r)) ∧ (x = .str "line" ∨ x = .str "racks") := by
  cases q with
  | line p s l b => obtain ⟨a, rfl, e⟩ := h.pasL; exact ⟨a, _, _, rfl, e, .inl rfl⟩
  | racks p per st => obtain ⟨a, l, us, rfl, e, _⟩ := h.pasR; exact ⟨a, _, _, rfl, e, .inr rfl⟩
def spPassAt : Sp := fun vs H Q _ => ∃ (v : V) (p : Str) (B : Bat3) (d : PyData) (cs : List Addr), vs = [v, .str p] ∧ BatR B d ∧ Thg cs H v d ∧ ∀ y, Thg cs H y (optPas (passF B.pas p)) → Q y H
abbrev sPassAt : Stmt := topS 11
theorem scPassAt : FnScope ["batch", "place", "passed"] ["batch", "place"] (defScope sPassAt) := ⟨rfl, rfl, rfl, by decide +kernel, rfl, by decide +kernel, by decide +kernel⟩
section
variable {K : PySem.W.Frag} {mg : Str → Option Value} {P : Program} {w : World} {base : Heap}
theorem ok_PassAt {f : Addr} {fd : FuncData} (F : Fun K "pass_at" "pass_at" sPassAt f fd) : FnOk P w K mg base CX0 1 f fd ["batch", "place"] spPassAt := by
  refine F.ok scPassAt (fun vs H Q E h => ?_) (fun cdv A outer s H vs Q E hr h => ?_)
  · obtain ⟨v, p, B, d, cs, rfl, _⟩ := h
    rfl
  · obtain ⟨v, p, B, d, cs, rfl, hB, hv, q⟩ := h
    refine ⟨_, pss_cons (ps_for PassesOwn.never rfl (pi_seq (pe_ix ix_tup (pv 0) pe_int (fun _ _ => rfl))) (pg_name (i := 2) scPassAt.nd rfl (.inl rfl))
        (pss_one (ps_if (pt_cmpR op_eq (pe_ix ix_tup (pv 2) pe_int (fun _ _ => rfl)) (pv 1) (nomark _)) (pss_one (ps_ret (pv 2)))
          pss_nil)))
      (pss_one (ps_ret pe_non)), ?_⟩
    obtain ⟨a, l, xs, rfl, ea, hl, hx⟩ := hv.bat hB
    refine ⟨_, rfl, a, _, 2, _, rfl, rfl, .inl (.inl ea), atI_nat (j := 2) rfl, l, rfl, for_seqS hl.sq (Same.refl H) (fun i σ Hx => ∃ y2, σ = [some (.ref a), some (.str p), y2] ∧ Hx = H ∧ ∀ j q', j < i → B.pas[j]? = some q' → q'.pl ≠ p) ⟨_, rfl, rfl, fun j q' z => absurd z (Nat.not_lt_zero _)⟩ (fun i σ Hx hP => ?_) (fun i x σ Hx hxi hP => ?_) (fun σ Hx hP => ?_)⟩
    · obtain ⟨_, _, rfl, _⟩ := hP
      exact Same.refl _
    · obtain ⟨y2, rfl, rfl, hno⟩ := hP
      obtain ⟨q', eq', hq'⟩ := hx.atM hxi
      obtain ⟨b, x0, r, rfl, eb, _⟩ := hq'.pas
      refine ⟨_, rfl, b, _, 1, _, rfl, rfl, .inl (.inl eb), atI_nat (j := 1) rfl, _, rfl, rfl, _, rfl, ite2 (fun c => ?_) (fun c => ?_)⟩
      · have ep : q'.pl = p := V.str.inj (of_decide_eq_true c)
        have ef : passF B.pas p = some q' := by
          unfold passF
          rw [List.find?_eq_some_iff_getElem]
          obtain ⟨hi, e⟩ := List.getElem?_eq_some_iff.mp eq'
          exact ⟨decide_eq_true ep, i, hi, e, fun j hj => by
            have := hno j B.pas[j] hj (List.getElem?_eq_getElem (by omega))
            simp [this]⟩
        exact ⟨_, rfl, q _ (by rw [ef]; exact hq')⟩
      · refine ⟨_, rfl, rfl, fun j q2 hj ej => ?_⟩
        by_cases hji : j = i
        · subst hji
          rw [eq'] at ej
          cases ej
          exact fun z => c (decide_eq_true (congrArg V.str z))
        · exact hno j q2 (by omega) ej
    · obtain ⟨y2, rfl, rfl, hno⟩ := hP
      have ef : passF B.pas p = none := by
        unfold passF
        rw [List.find?_eq_none]
        intro q' hq'
        obtain ⟨j, hj⟩ := List.getElem?_of_mem hq'
        have hjl := (List.getElem?_eq_some_iff.mp hj).1
        have := hno j q' (by rw [hx.1, List.length_map]; exact hjl) hj
        simp [this]
      exact q _ (by rw [ef]; exact .non)
end
def spWin (K : PySem.W.Frag) : Sp := fun vs H Q _ => ∃ (v : V) (p : Str) (k : Int) (B : Bat3) (d : PyData) (cs : List Addr), vs = [v, .str p, .int k] ∧ BatR B d ∧ Thg cs H v d ∧ BatOk B ∧ 0 ≤ k ∧ k < B.tins ∧ ∀ y H', Same H H' → Thg cs H' y (spanD (winF B p k)) → Q y H'
abbrev sWindow : Stmt := topS 12
theorem scWindow : FnScope ["batch", "place", "tin", "passed", "minute", "first", "last"] ["batch", "place", "tin"] (defScope sWindow) := ⟨rfl, rfl, rfl, by decide +kernel, rfl, by decide +kernel, by decide +kernel⟩
section
variable {K : PySem.W.Frag} {mg : Str → Option Value} {P : Program} {w : World} {base : Heap}
theorem ok_Window {f : Addr} {fd : FuncData} (F : Fun K "window" "window" sWindow f fd) (C_pass_at : Cal P w K mg base 1 "pass_at" ["batch", "place"] spPassAt) (c_LINE : ∃ u, mg "LINE" = some u ∧ RelV (.str "line") u) : FnOk P w K mg base CX0 2 f fd ["batch", "place", "tin"] (spWin K) := by
  refine F.ok scWindow (fun vs H Q E h => ?_) (fun cdv A outer s H vs Q E hr h => ?_)
  · obtain ⟨v, p, k, B, d, cs, rfl, _⟩ := h
    rfl
  · obtain ⟨v, p, k, B, d, cs, rfl, hB, hv, ho, k0, k1, q⟩ := h
    refine ⟨_, pss_cons (ps_set (i := 3) scWindow.nd rfl (.inl rfl) (pe_own C_pass_at hr (by rfl) (pa_cons (pv 0) (pa_cons (pv 1) pa_nil))))
      (pss_cons (ps_if (pt_cmpR op_isN (pv 3) pe_non (nomark _)) (pss_one (ps_ret pe_non))
        pss_nil)
      (pss_cons (ps_if (pt_cmpR op_eq (pe_ix ix_tup (pv 3) pe_int (fun _ _ => rfl)) (C8.pe_gc (by rfl) c_LINE) (nomark _)) (pss_cons (ps_set (i := 4) scWindow.nd rfl (.inl rfl) (pe_op op_add (pe_ix ix_tup (pv 3) pe_int (fun _ _ => rfl)) (pe_op op_fdivW (pe_op op_mulW (pv 2) (pe_ix ix_tup (pv 3) pe_int (fun _ _ => rfl))) (pe_ix ix_tup (pv 3) pe_int (fun _ _ => rfl)))))
        (pss_one (ps_ret (pe_tup (pa_cons (pv 4) (pa_cons (pv 4) pa_nil))))))
        pss_nil)
      (pss_cons (ps_asg (pe_ix ix_seq (pe_ix ix_tup (pv 3) pe_int (fun _ _ => rfl)) (pe_op op_fdivW (pv 2) (pe_ix ix_tup (pv 3) pe_int (fun _ _ => rfl))) (fun _ _ => rfl)) (pg_tup rfl (pgs_cons (pg_name (i := 5) scWindow.nd rfl (.inl rfl)) (pgs_cons (pg_name (i := 6) scWindow.nd rfl (.inl rfl)) pgs_nil))))
      (pss_one (ps_ret (pe_tup (pa_cons (pv 5) (pa_cons (pv 6) pa_nil)))))))), ?_⟩
    refine ⟨_, rfl, _, rfl, v, p, B, d, cs, rfl, hB, hv, fun y hy => ?_⟩
    have e75 : Big = 10 ^ 75 := rfl
    cases ef : passF B.pas p with
    | none =>
      rw [ef] at hy
      cases hy.inv_non
      exact ⟨_, rfl, rfl, _, rfl, iteT (q _ H (Same.refl _) (by rw [show winF B p k = none by unfold winF; rw [ef]]; exact .non))⟩
    | some x =>
      rw [ef] at hy
      have ew : winF B p k = winPas x k := by unfold winF; rw [ef]
      have hxo := ho.2.2.2.2 x (passF_mem ef).1
      rw [ew] at q
      have hk := ho.2.2.1
      cases x with
      | line p' s l b =>
        obtain ⟨a, rfl, e⟩ := hy.pasL
        obtain ⟨_, h1, h2, h3, h4, h5, h6⟩ := hxo
        refine ⟨_, rfl, rfl, _, rfl, iteF ⟨_, rfl, a, _, 0, _, rfl, rfl, .inl (.inl e), atI_nat (j := 0) rfl, rfl, _, rfl, iteT ?_⟩⟩
        refine ⟨_, rfl, a, _, 2, _, rfl, rfl, .inl (.inl e), atI_nat (j := 2) rfl, _, rfl, _, rfl, a, _, 3, _, rfl, rfl, .inl (.inl e), atI_nat (j := 3) rfl, k, l, rfl, rfl, mulw (Big.lt k0 (by omega)) (Big.lt h3 h4), _, rfl, a, _, 4, _, rfl, rfl, .inl (.inl e), atI_nat (j := 4) rfl, _, b, rfl, rfl, divw (by omega) (Big.lt (by omega) h6), _, _, rfl, rfl, ?_⟩
        refine ⟨_, rfl, _, rfl, (by show 2 ≤ sizeLine; decide), fun T nT => ?_⟩
        exact q _ _ (same_upd nT) (thg_pair (p := (s + k * l / b, s + k * l / b)) upd_same)
      | racks p' per st =>
        obtain ⟨a, L, us, rfl, e, eL, hu⟩ := hy.pasR
        obtain ⟨_, h1, h2, h3, h4, h5⟩ := hxo
        obtain ⟨j, hj, jl⟩ := rack_at h1 h3 k0 k1
        have ewp : winPas (.racks p' per st) k = some st[j] := by
          show st[(k / per).toNat]? = _
          rw [hj, Int.toNat_natCast, List.getElem?_eq_getElem jl]
        rw [ewp] at q
        obtain ⟨x, ex, hx⟩ := hu.at' (List.getElem?_eq_getElem jl)
        obtain ⟨T, rfl, eT⟩ := hx.pair
        refine ⟨_, rfl, rfl, _, rfl, iteF ⟨_, rfl, a, _, 0, _, rfl, rfl, .inl (.inl e), atI_nat (j := 0) rfl, rfl, _, rfl, iteF ?_⟩⟩
        refine ⟨_, rfl, a, _, 3, _, rfl, rfl, .inl (.inl e), atI_nat (j := 3) rfl, _, rfl, _, rfl, a, _, 2, _, rfl, rfl, .inl (.inl e), atI_nat (j := 2) rfl, k, per, rfl, rfl, divw (by omega) (Big.lt (by omega) h2), L, us, _, _, rfl, rfl, .inl (SqL.of eL), by rw [hj]; exact atI_nat ex, T, _, rfl, .inl (.inl eT), rfl, _, _, rfl, _, _, rfl, rfl, ?_⟩
        refine ⟨_, rfl, _, rfl, (by show 2 ≤ sizeLine; decide), fun T2 nT2 => ?_⟩
        exact q _ _ (same_upd nT2) (thg_pair upd_same)
end
def spLWin : Sp := fun vs H Q _ => ∃ (v : V) (p : Str) (k : Int) (B : Bat3) (cs : List Addr), vs = [v, .str p, .int k] ∧ Thg cs H v (batD B) ∧ BatOk B ∧ 0 ≤ k ∧ k < B.tins ∧ ∀ y H', Same H H' → Thg cs H' y (spanD (winF B p k)) → Q y H'
theorem Thg.batL {cs : List Addr} {H : Hp} {v : V} {B : Bat3} (h : Thg cs H v (batD B)) : ∃ a p xs, v = .ref a ∧ H a = some (.tup [.str B.mark, .int B.tins, .ref p]) ∧ H p = some (.lst xs) ∧ p ∉ cs ∧ ThgL cs H xs (B.pas.map pasD) := by
  obtain ⟨a, xs, rfl, e, h1⟩ := h.tuple
  obtain ⟨x, ys, rfl, h2, h3⟩ := h1.inv
  obtain ⟨y, zs, rfl, h4, h5⟩ := h3.inv
  obtain ⟨z, ws, rfl, h6, h7⟩ := h5.inv
  obtain ⟨p, us, rfl, h8, hn, h9⟩ := h6.list
  rw [h7.inv0, h2.inv_str, h4.inv_int] at e
  exact ⟨a, p, us, rfl, e, h8, hn, h9⟩
abbrev sLWin : Stmt := topS 34
theorem scLWin : FnScope ["_law_batch", "_law_place", "_law_tin", "_law_one"] ["_law_batch", "_law_place", "_law_tin"] (defScope sLWin) := ⟨rfl, rfl, rfl, by decide +kernel, rfl, by decide +kernel, by decide +kernel⟩
section
variable {K : PySem.W.Frag} {mg : Str → Option Value} {P : Program} {w : World} {base : Heap}
theorem ok_LWin {f : Addr} {fd : FuncData} (F : Fun K "_law_window" "_law_window" sLWin f fd) : FnOk P w K mg base CX0 1 f fd ["_law_batch", "_law_place", "_law_tin"] spLWin := by
  refine F.ok scLWin (fun vs H Q E h => ?_) (fun cdv A outer s H vs Q E hr h => ?_)
  · obtain ⟨v, p, k, B, cs, rfl, _⟩ := h
    rfl
  · obtain ⟨v, p, k, B, cs, rfl, hv, ho, k0, k1, q⟩ := h
    refine ⟨_, pss_cons (ps_for PassesOwn.never rfl (pi_list (pe_ix ix_tup (pv 0) pe_int (fun _ _ => rfl))) (pg_name (i := 3) scLWin.nd rfl (.inl rfl))
        (pss_cons (ps_if (PW.pt (pw_and (pt_cmpR op_eq (pe_ix ix_tup (pv 3) pe_int (fun _ _ => rfl)) (pv 1) (nomark _)) (pw_and1 (pt_cmpR op_eq (pe_ix ix_tup (pv 3) pe_int (fun _ _ => rfl)) pe_str (nomark _))))) (pss_one (ps_ret (pe_tup (pa_cons (pe_op op_add (pe_ix ix_tup (pv 3) pe_int (fun _ _ => rfl)) (pe_op op_fdivW (pe_op op_mulW (pv 2) (pe_ix ix_tup (pv 3) pe_int (fun _ _ => rfl))) (pe_ix ix_tup (pv 3) pe_int (fun _ _ => rfl)))) (pa_cons (pe_op op_add (pe_ix ix_tup (pv 3) pe_int (fun _ _ => rfl)) (pe_op op_fdivW (pe_op op_mulW (pv 2) (pe_ix ix_tup (pv 3) pe_int (fun _ _ => rfl))) (pe_ix ix_tup (pv 3) pe_int (fun _ _ => rfl)))) pa_nil)))))
          pss_nil)
        (pss_one (ps_if (pt_cmpR op_eq (pe_ix ix_tup (pv 3) pe_int (fun _ _ => rfl)) (pv 1) (nomark _)) (pss_one (ps_ret (pe_ix ix_list (pe_ix ix_tup (pv 3) pe_int (fun _ _ => rfl)) (pe_op op_fdivW (pv 2) (pe_ix ix_tup (pv 3) pe_int (fun _ _ => rfl))) (fun _ _ => rfl))))
          pss_nil))))
      (pss_one (ps_ret pe_non)), ?_⟩
    have e75 : Big = 10 ^ 75 := rfl
    obtain ⟨a, l, xs, rfl, ea, el, _, hx⟩ := hv.batL
    refine ⟨_, rfl, a, _, 2, _, rfl, rfl, .inl (.inl ea), atI_nat (j := 2) rfl, l, rfl, ⟨_, SqL.of el⟩, for_list (xs := xs) (fun i σ Hx => ∃ y3, σ = [some (.ref a), some (.str p), some (.int k), y3] ∧ Hx = H ∧ ∀ j q', j < i → B.pas[j]? = some q' → q'.pl ≠ p) ⟨_, rfl, rfl, fun j q' z => absurd z (Nat.not_lt_zero _)⟩ (fun i σ Hx _ hP => ?_) (fun i x σ Hx hxi hP => ?_) (fun σ Hx hP => ?_)⟩
    · obtain ⟨_, rfl, rfl, _⟩ := hP
      exact SqL.of el
    · obtain ⟨y3, rfl, rfl, hno⟩ := hP
      obtain ⟨q', eq', hq'⟩ := hx.atM hxi
      have next : q'.pl ≠ p → ∃ y3', [some (V.ref a), some (.str p), some (.int k), some x] = [some (.ref a), some (.str p), some (.int k), y3'] ∧ Hx = Hx ∧ ∀ j q2, j < i + 1 → B.pas[j]? = some q2 → q2.pl ≠ p := fun ne => ⟨_, rfl, rfl, fun j q2 hj ej => by
        by_cases hji : j = i
        · subst hji
          rw [eq'] at ej
          cases ej
          exact ne
        · exact hno j q2 (by omega) ej⟩
      have found : q'.pl = p → winF B p k = winPas q' k := fun ep => by
        have ef : passF B.pas p = some q' := by
          unfold passF
          rw [List.find?_eq_some_iff_getElem]
          obtain ⟨hi, e⟩ := List.getElem?_eq_some_iff.mp eq'
          exact ⟨decide_eq_true ep, i, hi, e, fun j hj => by
            have := hno j B.pas[j] hj (List.getElem?_eq_getElem (by omega))
            simp [this]⟩
        unfold winF
        rw [ef]
      have hxo := ho.2.2.2.2 q' (List.mem_of_getElem? eq')
      have hk := ho.2.2.1
      cases q' with
      | line p' s l' b =>
        obtain ⟨c, rfl, e⟩ := hq'.pasL
        obtain ⟨_, h1, h2, h3, h4, h5, h6⟩ := hxo
        refine ⟨_, rfl, c, _, 1, _, rfl, rfl, .inl (.inl e), atI_nat (j := 1) rfl, _, rfl, rfl, _, rfl, ite2 (fun c1 => ?_) (fun c1 => ?_)⟩
        · have ep : p' = p := V.str.inj (of_decide_eq_true c1)
          rw [found ep] at q
          refine ⟨_, rfl, c, _, 0, _, rfl, rfl, .inl (.inl e), atI_nat (j := 0) rfl, rfl, _, rfl, iteT ?_⟩
          refine ⟨_, rfl, c, _, 2, _, rfl, rfl, .inl (.inl e), atI_nat (j := 2) rfl, _, rfl, _, rfl, c, _, 3, _, rfl, rfl, .inl (.inl e), atI_nat (j := 3) rfl, k, l', rfl, rfl, mulw (Big.lt k0 (by omega)) (Big.lt h3 h4), _, rfl, c, _, 4, _, rfl, rfl, .inl (.inl e), atI_nat (j := 4) rfl, _, b, rfl, rfl, divw (by omega) (Big.lt (by omega) h6), _, _, rfl, rfl, ?_⟩
          refine ⟨_, rfl, c, _, 2, _, rfl, rfl, .inl (.inl e), atI_nat (j := 2) rfl, _, rfl, _, rfl, c, _, 3, _, rfl, rfl, .inl (.inl e), atI_nat (j := 3) rfl, k, l', rfl, rfl, mulw (Big.lt k0 (by omega)) (Big.lt h3 h4), _, rfl, c, _, 4, _, rfl, rfl, .inl (.inl e), atI_nat (j := 4) rfl, _, b, rfl, rfl, divw (by omega) (Big.lt (by omega) h6), _, _, rfl, rfl, (by show 2 ≤ sizeLine; decide), fun T nT => ?_⟩
          exact q _ _ (same_upd nT) (thg_pair (p := (s + k * l' / b, s + k * l' / b)) upd_same)
        · have ne : p' ≠ p := fun z => c1 (decide_eq_true (congrArg V.str z))
          exact iteF ⟨_, rfl, c, _, 1, _, rfl, rfl, .inl (.inl e), atI_nat (j := 1) rfl, _, rfl, rfl, _, rfl, ite2 (fun z => absurd z c1) (fun _ => next ne)⟩
      | racks p' per st =>
        obtain ⟨c, L, us, rfl, e, eL, hu⟩ := hq'.pasR
        obtain ⟨_, h1, h2, h3, h4, h5⟩ := hxo
        refine ⟨_, rfl, c, _, 1, _, rfl, rfl, .inl (.inl e), atI_nat (j := 1) rfl, _, rfl, rfl, _, rfl, ite2 (fun c1 => ?_) (fun c1 => ?_)⟩
        · have ep : p' = p := V.str.inj (of_decide_eq_true c1)
          rw [found ep] at q
          obtain ⟨j, hj, jl⟩ := rack_at h1 h3 k0 k1
          have ewp : winPas (.racks p' per st) k = some st[j] := by
            show st[(k / per).toNat]? = _
            rw [hj, Int.toNat_natCast, List.getElem?_eq_getElem jl]
          rw [ewp] at q
          obtain ⟨x, ex, hx'⟩ := hu.at' (List.getElem?_eq_getElem jl)
          refine ⟨_, rfl, c, _, 0, _, rfl, rfl, .inl (.inl e), atI_nat (j := 0) rfl, rfl, _, rfl, iteF ?_⟩
          refine ⟨_, rfl, c, _, 1, _, rfl, rfl, .inl (.inl e), atI_nat (j := 1) rfl, _, rfl, rfl, _, rfl, ite2 (fun _ => ?_) (fun z => absurd c1 z)⟩
          exact ⟨_, rfl, c, _, 3, _, rfl, rfl, .inl (.inl e), atI_nat (j := 3) rfl, _, rfl, _, rfl, c, _, 2, _, rfl, rfl, .inl (.inl e), atI_nat (j := 2) rfl, k, per, rfl, rfl, divw (by omega) (Big.lt (by omega) h2), L, us, _, _, rfl, rfl, SqL.of eL, by rw [hj]; exact atI_nat ex, q _ _ (Same.refl _) hx'⟩
        · have ne : p' ≠ p := fun z => c1 (decide_eq_true (congrArg V.str z))
          exact iteF ⟨_, rfl, c, _, 1, _, rfl, rfl, .inl (.inl e), atI_nat (j := 1) rfl, _, rfl, rfl, _, rfl, ite2 (fun z => absurd z c1) (fun _ => next ne)⟩
    · obtain ⟨y3, rfl, rfl, hno⟩ := hP
      have ef : passF B.pas p = none := by
        unfold passF
        rw [List.find?_eq_none]
        intro q' hq'
        obtain ⟨j, hj⟩ := List.getElem?_of_mem hq'
        have hjl := (List.getElem?_eq_some_iff.mp hj).1
        have := hno j q' (by rw [hx.1, List.length_map]; exact hjl) hj
        simp [this]
      exact q _ _ (Same.refl _) (by rw [show winF B p k = none by unfold winF; rw [ef]]; exact .non)
end

/-! ### where and when a fault can have been: the numbers -/
open Classical in
noncomputable def minL (xs : List Int) : Int := if h : ∃ m, m ∈ xs ∧ ∀ x ∈ xs, m ≤ x then Classical.choose h else 0
open Classical in
noncomputable def maxL (xs : List Int) : Int := if h : ∃ m, m ∈ xs ∧ ∀ x ∈ xs, x ≤ m then Classical.choose h else 0
theorem minL_eq {xs : List Int} {m : Int} (h1 : m ∈ xs) (h2 : ∀ x ∈ xs, m ≤ x) : minL xs = m := by
  unfold minL
  have h : ∃ m, m ∈ xs ∧ ∀ x ∈ xs, m ≤ x := ⟨m, h1, h2⟩
  rw [dif_pos h]
  have := Classical.choose_spec h
  have a := this.2 m h1
  have b := h2 _ this.1
  omega
theorem maxL_eq {xs : List Int} {m : Int} (h1 : m ∈ xs) (h2 : ∀ x ∈ xs, x ≤ m) : maxL xs = m := by
  unfold maxL
  have h : ∃ m, m ∈ xs ∧ ∀ x ∈ xs, x ≤ m := ⟨m, h1, h2⟩
  rw [dif_pos h]
  have := Classical.choose_spec h
  have a := this.2 m h1
  have b := h2 _ this.1
  omega
/-- the set of all that these stretches have -/
noncomputable def setL (ps : List (Int × Int)) : List (Int × Int) := canon (InS ps)
/-- the gaps of a set, from a minute on -/
def gapsO : Int → List (Int × Int) → List (Int × Option Int)
  | s, [] => [(s, none)]
  | s, p :: r => (if s < p.1 then [(s, some (p.1 - 1))] else []) ++ gapsO (p.2 + 1) r
/-- the gaps ahead of the last one -/
def gapsI : Int → List (Int × Int) → List (Int × Option Int)
  | _, [] => []
  | s, p :: r => (if s < p.1 then [(s, some (p.1 - 1))] else []) ++ gapsI (p.2 + 1) r
def endI : Int → List (Int × Int) → Int
  | s, [] => s
  | _, p :: r => endI (p.2 + 1) r
theorem gapsO_eq : ∀ (s : Int) (ps : List (Int × Int)), gapsO s ps = gapsI s ps ++ [(endI s ps, none)]
  | _, [] => rfl
  | s, p :: r => by
    show _ ++ gapsO (p.2 + 1) r = (_ ++ gapsI (p.2 + 1) r) ++ _
    rw [gapsO_eq, List.append_assoc]
    rfl
theorem gapsI_snoc : ∀ (s : Int) (ps : List (Int × Int)) (p : Int × Int), gapsI s (ps ++ [p]) = gapsI s ps ++ (if endI s ps < p.1 then [(endI s ps, some (p.1 - 1))] else []) ∧ endI s (ps ++ [p]) = p.2 + 1
  | s, [], p => ⟨by show _ ++ gapsI (p.2 + 1) [] = [] ++ _; rw [List.nil_append]; exact List.append_nil _, rfl⟩
  | s, q :: r, p => by
    have ih := gapsI_snoc (q.2 + 1) r p
    refine ⟨?_, ih.2⟩
    show _ ++ gapsI (q.2 + 1) (r ++ [p]) = (_ ++ gapsI (q.2 + 1) r) ++ _
    rw [ih.1, List.append_assoc]
    rfl
theorem gapsI_len : ∀ (s : Int) (ps : List (Int × Int)), (gapsI s ps).length ≤ ps.length
  | _, [] => Nat.le_refl _
  | s, p :: r => by
    have := gapsI_len (p.2 + 1) r
    show (_ ++ gapsI (p.2 + 1) r).length ≤ r.length + 1
    rw [List.length_append]
    split
    · show 1 + _ ≤ _; omega
    · show 0 + _ ≤ _; omega
def optI : Option Int → PyData
  | none => .none
  | some i => .int i
def optV : Option Int → V
  | none => .non
  | some i => .int i
theorem thg_opt {cs : List Addr} {H : Hp} (o : Option Int) : Thg cs H (optV o) (optI o) := by cases o; exact .non; exact .int _
theorem Thg.inv_opt {cs : List Addr} {H : Hp} {v : V} {o : Option Int} (h : Thg cs H v (optI o)) : v = optV o := by cases o; exact h.inv_non; exact h.inv_int
def gapD (g : Int × Option Int) : PyData := .tuple [.int g.1, optI g.2]
abbrev Row4 := Int × Option Int × Int × Int
def row4D (r : Row4) : PyData := .tuple [.int r.1, optI r.2.1, .int r.2.2.1, .int r.2.2.2]
/-- the row of a gap -/
def rowG (fe lb : Int) (g : Int × Option Int) : Option Row4 := match g.2 with
  | none => if g.1 ≤ fe then some (g.1, none, fe, if g.1 > lb then g.1 else lb) else none
  | some l => if g.1 ≤ fe ∧ lb ≤ l then some (g.1, some l, if l < fe then l else fe, if g.1 > lb then g.1 else lb) else none
noncomputable def faultF (bad good : List (Int × Int)) : List Row4 := (gapsO 0 (setL good)).filterMap (rowG (minL (bad.map (·.2))) (maxL (bad.map (·.1))))
abbrev Seen := List (Option (Int × Int) × Bool)
def badsF (seen : Seen) : List (Option (Int × Int)) := (seen.filter (·.2)).map (·.1)
def goodsF (seen : Seen) : List (Int × Int) := (seen.filter fun x => !x.2).filterMap (·.1)
open Classical in
noncomputable def rowsAtF (seen : Seen) : List Row4 := if none ∈ badsF seen then [] else faultF ((badsF seen).filterMap id) (goodsF seen)
def winT (bs : List Bat3) (p : Str) (t : Tst) : Option (Int × Int) := match bs.find? fun B => decide (B.mark = t.mark) with
  | none => none
  | some B => winF B p t.tin
def seenF (bs : List Bat3) (ts : List Tst) (p : Str) : Seen := ts.map fun t => (winT bs p t, t.bad)
abbrev Row5 := Str × Row4
def row5D (r : Row5) : PyData := .tuple [.str r.1, .int r.2.1, optI r.2.2.1, .int r.2.2.2.1, .int r.2.2.2.2]
noncomputable def suspF (bs : List Bat3) (ts : List Tst) (xs : List Str) : List Row5 := xs.flatMap fun p => (rowsAtF (seenF bs ts p)).map fun r => (p, r)
/-- some pass is of this place -/
def PlaceP (bs : List Bat3) (x : Str) : Prop := ∃ B ∈ bs, ∃ q ∈ B.pas, q.pl = x
/-- the rising list of these -/
structure SrtT (pr : Str → Prop) (xs : List Str) : Prop where
  up : sortedS xs = true
  nd : xs.Nodup
  mem : ∀ x, x ∈ xs ↔ pr x
structure CaseOk (bs : List Bat3) (ts : List Tst) : Prop where
  nd : (bs.map Bat3.mark).Nodup
  bat : ∀ B ∈ bs, BatOk B
  bl : bs.length ≤ 100
  few : ∃ zs : List Str, zs.length < 64 ∧ ∀ x, PlaceP bs x → x ∈ zs
  tst : ∀ t ∈ ts, ∃ B ∈ bs, B.mark = t.mark ∧ 0 ≤ t.tin ∧ t.tin < B.tins
  tl : ts.length ≤ 300
theorem winT_of {bs : List Bat3} {ts : List Tst} (h : CaseOk bs ts) {t : Tst} (ht : t ∈ ts) (p : Str) : ∃ B ∈ bs, B.mark = t.mark ∧ winT bs p t = winF B p t.tin ∧ 0 ≤ t.tin ∧ t.tin < B.tins := by
  obtain ⟨B, hB, hm, h0, h1⟩ := h.tst t ht
  cases e : bs.find? fun B => decide (B.mark = t.mark) with
  | none =>
    have := List.find?_eq_none.mp e B hB
    simp [hm] at this
  | some B' =>
    have hm' : B'.mark = t.mark := of_decide_eq_true (List.find?_some (p := fun B : Bat3 => decide (B.mark = t.mark)) e)
    have hB' := List.mem_of_find?_eq_some e
    have eq : B' = B := by
      obtain ⟨i, hi, ei⟩ := List.getElem_of_mem hB'
      obtain ⟨j, hj, ej⟩ := List.getElem_of_mem hB
      have : i = j := (List.getElem_inj (h₀ := by rw [List.length_map]; exact hi) (h₁ := by rw [List.length_map]; exact hj) h.nd).mp (by rw [List.getElem_map, List.getElem_map, ei, ej, hm, hm'])
      subst this
      rw [← ei, ← ej]
    subst eq
    exact ⟨B', hB, hm, by unfold winT; rw [e], h0, h1⟩
/-- batches, each a list or a tuple of passes -/
def BatsR (bs : List Bat3) (ds : List PyData) : Prop := ds.length = bs.length ∧ ∀ (i : Nat) B d, bs[i]? = some B → ds[i]? = some d → BatR B d
theorem batsR (bs : List Bat3) : BatsR bs (bs.map batD) := ⟨List.length_map _, fun i B d e1 e2 => by
  rw [List.getElem?_map, e1] at e2
  cases e2
  exact batR⟩
theorem ThgL.bat {cs : List Addr} {H : Hp} {xs : List V} {ds : List PyData} {bs : List Bat3} {i : Nat} {x : V} (h : ThgL cs H xs ds) (r : BatsR bs ds) (e : xs[i]? = some x) : ∃ B d, bs[i]? = some B ∧ BatR B d ∧ Thg cs H x d := by
  obtain ⟨d, ed, hd⟩ := h.at e
  have hi : i < bs.length := by rw [← r.1]; exact (List.getElem?_eq_some_iff.mp ed).1
  exact ⟨_, d, List.getElem?_eq_getElem hi, r.2 i _ d (List.getElem?_eq_getElem hi) ed, hd⟩
/-! ### places -/
theorem walk_W {J : It} {n : Nat} {G : Hp → Prop} {Y : Nat → Hp → V → Hp → Prop} (w : Walk J n G Y) {Bd : V → Hp → (Hp → Prop) → Prop} {Qd : Hp → Prop} {H1 : Hp} (Pv : Nat → Hp → Prop) (h0 : Pv 0 H1) (hG : ∀ i H, i ≤ n → Pv i H → G H) (turn : ∀ i x H H', i < n → Pv i H → Y i H x H' → Bd x H' (Pv (i + 1))) (fin : ∀ H, Pv n H → Qd H) :
    ∃ W : Nat → Nat → Hp → Prop, (∃ m, W 0 m H1) ∧ ∀ i m H, W i m H → (J.stop i H ∧ Qd H) ∨ (J.go i H ∧ ∃ Nx : Hp → Prop, (∀ H', Nx H' → ∃ m', m' < m ∧ W (i + 1) m' H') ∧ ∀ x H', J.yld i H x H' → Bd x H' Nx) := by
  refine ⟨fun i m H => m = n - i ∧ i ≤ n ∧ Pv i H, ⟨n, by simp, Nat.zero_le _, h0⟩, ?_⟩
  rintro i m H ⟨rfl, hi, p⟩
  have q := hG i H hi p
  by_cases lt : i < n
  · exact .inr ⟨w.goes i H lt q, Pv (i + 1), fun H' p' => ⟨n - (i + 1), by omega, rfl, lt, p'⟩, fun x H' y => turn i x H H' lt p (w.yields i H x H' lt q y)⟩
  · obtain rfl : i = n := by omega
    exact .inl ⟨w.stops H q, fin H p⟩
theorem iseq_W1 {K : PySem.W.Frag} {H : Hp} {a : Addr} {xs : List V} {Bd : V → Hp → (Hp → Prop) → Prop} {Qd : Hp → Prop} (h : SqH H a xs) (Pv : Nat → Hp → Prop) (h0 : Pv 0 H) (hs : ∀ i H', Pv i H' → ∀ o, H a = some o → H' a = some o) (turn : ∀ i x H', xs[i]? = some x → Pv i H' → Bd x H' (Pv (i + 1))) (fin : ∀ H', Pv xs.length H' → Qd H') :
    ((∃ xs, SqL K H a xs) ∧ ∃ W : Nat → Nat → Hp → Prop, (∃ m, W 0 m H) ∧ ∀ i m H, W i m H → ((Itl K a).stop i H ∧ Qd H) ∨ ((Itl K a).go i H ∧ ∃ Nx : Hp → Prop, (∀ H', Nx H' → ∃ m', m' < m ∧ W (i + 1) m' H') ∧ ∀ x H', (Itl K a).yld i H x H' → Bd x H' Nx)) ∨
    ((∃ xs, SqT K H a xs) ∧ ∃ W : Nat → Nat → Hp → Prop, (∃ m, W 0 m H) ∧ ∀ i m H, W i m H → ((Itt K a).stop i H ∧ Qd H) ∨ ((Itt K a).go i H ∧ ∃ Nx : Hp → Prop, (∀ H', Nx H' → ∃ m', m' < m ∧ W (i + 1) m' H') ∧ ∀ x H', (Itt K a).yld i H x H' → Bd x H' Nx)) := by
  rcases h with e | e
  · exact .inl ⟨⟨_, SqL.of e⟩, walk_W (walk_list (xs := xs)) Pv h0 (fun i H' _ p => SqL.of (hs i H' p _ e)) (fun i x H1 H' _ p ⟨e1, e2⟩ => by subst e1; exact turn i x _ e2 p) fin⟩
  · exact .inr ⟨⟨_, .inl (.inl e)⟩, walk_W (walk_tup (xs := xs)) Pv h0 (fun i H' _ p => .inl (.inl (hs i H' p _ e))) (fun i x H1 H' _ p ⟨e1, e2⟩ => by subst e1; exact turn i x _ e2 p) fin⟩
theorem iseq_W {K : PySem.W.Frag} {H : Hp} {a : Addr} {xs : List V} {ini : Addr → Hp} {Bd : Addr → V → Hp → (Hp → Prop) → Prop} {Qd : Addr → Hp → Prop} (h : SqH H a xs) (Pv : Addr → Nat → Hp → Prop) (h0 : ∀ D, H D = none → Pv D 0 (ini D)) (hs : ∀ D i H', H D = none → Pv D i H' → ∀ o, H a = some o → H' a = some o) (turn : ∀ D i x H', H D = none → xs[i]? = some x → Pv D i H' → Bd D x H' (Pv D (i + 1))) (fin : ∀ D H', H D = none → Pv D xs.length H' → Qd D H') :
    ((∃ xs, SqL K H a xs) ∧ ∀ D, H D = none → ∃ W : Nat → Nat → Hp → Prop, (∃ m, W 0 m (ini D)) ∧ ∀ i m H, W i m H → ((Itl K a).stop i H ∧ Qd D H) ∨ ((Itl K a).go i H ∧ ∃ Nx : Hp → Prop, (∀ H', Nx H' → ∃ m', m' < m ∧ W (i + 1) m' H') ∧ ∀ x H', (Itl K a).yld i H x H' → Bd D x H' Nx)) ∨
    ((∃ xs, SqT K H a xs) ∧ ∀ D, H D = none → ∃ W : Nat → Nat → Hp → Prop, (∃ m, W 0 m (ini D)) ∧ ∀ i m H, W i m H → ((Itt K a).stop i H ∧ Qd D H) ∨ ((Itt K a).go i H ∧ ∃ Nx : Hp → Prop, (∀ H', Nx H' → ∃ m', m' < m ∧ W (i + 1) m' H') ∧ ∀ x H', (Itt K a).yld i H x H' → Bd D x H' Nx)) := by
  rcases h with e | e
  · exact .inl ⟨⟨_, SqL.of e⟩, fun D nD => walk_W (walk_list (xs := xs)) (Pv D) (h0 D nD) (fun i H' _ p => SqL.of (hs D i H' nD p _ e)) (fun i x H1 H' _ p ⟨e1, e2⟩ => by subst e1; exact turn D i x _ nD e2 p) (fun H' p => fin D H' nD p)⟩
  · exact .inr ⟨⟨_, .inl (.inl e)⟩, fun D nD => walk_W (walk_tup (xs := xs)) (Pv D) (h0 D nD) (fun i H' _ p => .inl (.inl (hs D i H' nD p _ e))) (fun i x H1 H' _ p ⟨e1, e2⟩ => by subst e1; exact turn D i x _ nD e2 p) (fun H' p => fin D H' nD p)⟩
/-- the texts of a set: so many, unlike -/
def HasT (S : Str → Bool) (n : Nat) (pr : Str → Prop) : Prop := ∃ l : List Str, l.Nodup ∧ l.length = n ∧ (∀ x, S x = true ↔ x ∈ l) ∧ ∀ x, x ∈ l ↔ pr x
theorem HasT.add {S : Str → Bool} {n : Nat} {pr pr' : Str → Prop} {z : Str} (h : HasT S n pr) (e : ∀ x, pr' x ↔ pr x ∨ x = z) : HasT (fun v => S v || decide (v = z)) (if S z = true then n else n + 1) pr' := by
  obtain ⟨l, nd, ll, hS, hp⟩ := h
  by_cases c : S z = true
  · rw [if_pos c]
    refine ⟨l, nd, ll, fun x => ?_, fun x => ?_⟩
    · rw [Bool.or_eq_true, decide_eq_true_eq, hS x]
      exact ⟨fun y => y.elim id fun y => y ▸ (hS z).mp c, .inl⟩
    · rw [e x, hp x]
      exact ⟨.inl, fun y => y.elim id fun y => y ▸ (hp z).mp ((hS z).mp c)⟩
  · rw [if_neg c]
    refine ⟨z :: l, List.nodup_cons.mpr ⟨fun y => c ((hS z).mpr y), nd⟩, by rw [List.length_cons, ll], fun x => ?_, fun x => ?_⟩
    · rw [Bool.or_eq_true, decide_eq_true_eq, hS x, List.mem_cons]
      exact Or.comm
    · rw [List.mem_cons, e x, hp x]
      exact Or.comm
theorem HasT.le {S : Str → Bool} {n : Nat} {pr : Str → Prop} (h : HasT S n pr) {zs : List Str} (hz : ∀ x, pr x → x ∈ zs) : n ≤ zs.length := by
  obtain ⟨l, nd, ll, _, hp⟩ := h
  rw [← ll]
  exact nodup_len nd fun x hx => hz x ((hp x).mp hx)
def spPassed (K : PySem.W.Frag) : Sp := fun vs H Q _ => ∃ (a : Addr) (xs : List V) (ds : List PyData) (bs : List Bat3) (cs : List Addr), vs = [.ref a] ∧ SqH H a xs ∧ ThgL cs H xs ds ∧ BatsR bs ds ∧ (∃ zs : List Str, zs.length < 64 ∧ ∀ x, PlaceP bs x → x ∈ zs) ∧
  ∀ l ps H', H l = none → Same H H' → H' l = some (.lst (ps.map V.str)) → SrtT (PlaceP bs) ps → ps.length < 64 → Q (.ref l) H'
abbrev sPassed : Stmt := topS 16
theorem scPassed : FnScope ["batches", "batch", "passed"] ["batches"] (defScope sPassed) := ⟨rfl, rfl, rfl, by decide +kernel, rfl, by decide +kernel, by decide +kernel⟩
section
variable {K : PySem.W.Frag} {mg : Str → Option Value} {P : Program} {w : World} {base : Heap}
theorem ok_Passed {f : Addr} {fd : FuncData} (F : Fun K "places_passed" "places_passed" sPassed f fd) (m_sorted : mg "sorted" = none) : FnOk P w K mg base CX0 1 f fd ["batches"] (spPassed K) := by
  refine F.ok scPassed (fun vs H Q E h => ?_) (fun cdv A outer s H vs Q E hr h => ?_)
  · obtain ⟨a, xs, ds, bs, cs, rfl, _⟩ := h
    rfl
  · obtain ⟨a, xs, ds, bs, cs, rfl, ha, hx, hR, ⟨zs, hzl, hz⟩, q⟩ := h
    refine ⟨_, pss_one (ps_ret (pe_callB (StS.cr_sortedTx rfl) (by rfl) m_sorted (by decide +kernel) (pa_cons (StS.pe_sc2 (own := [("batch", 1), ("passed", 2)]) (vs1 := [2]) (g := gName 1) (g1 := gName 2) (tt := tYes) (tt1 := tYes) (wi1 := iSeq K (tOp (rIxT K) (tVar 1) (tC (.int 2)))) (te := tOp (rIxT K) (tVar 2) (tC (.int 1))) rfl scPassed.nd (pi_seq (pv 0)) (blkOk_by (own := [("batch", 1), ("passed", 2)]) (N := ["batches", "batch", "passed"]) (sc := defScope sPassed) (by decide +kernel)) (by decide) (fun _ _ _ _ _ => ⟨pg_name (i := 1) scPassed.nd rfl (.inl rfl), pts_nil, pi_seq (pe_ix ix_tup (pv 1) pe_int (fun _ _ => rfl)), pg_name (i := 2) scPassed.nd rfl (.inl rfl), pts_nil, pe_ix ix_tup (pv 2) pe_int (fun _ _ => rfl)⟩)) pa_nil))), ?_⟩
    refine ⟨_, rfl, a, rfl, ?_⟩
    have hl : xs.length = bs.length := by rw [hx.1, hR.1]
    refine iseq_W ha (fun D i H' => ∃ (S : Str → Bool) (n : Nat), H' D = some (StS.SetSO w D S n) ∧ HasT S n (fun x => ∃ B ∈ bs.take i, ∃ q ∈ B.pas, q.pl = x) ∧ ∀ b o, b ≠ D → H b = some o → H' b = some o)
      (fun D nD => ⟨_, 0, upd_same, ⟨[], List.nodup_nil, rfl, by simp, by simp⟩, fun b o nb e => by rw [upd_ne nb]; exact e⟩) (fun D i H' nD ⟨S, n, eD, _, k⟩ o e => k _ _ (ne_of_none e nD) e) (fun D i x H1 nD hxi ⟨S, n, eD, hS, k⟩ => ?_) (fun D H' nD ⟨S, n, eD, hS, k⟩ => ?_)
    · obtain ⟨B, d, eB, hB, hv⟩ := hx.bat hR hxi
      have kH : ∀ {H2 : Hp}, (∀ b o, b ≠ D → H b = some o → H2 b = some o) → ∀ {cs : List Addr} {v : V} {d : PyData}, Thg cs H v d → Thg cs H2 v d := by
        intro H2 k2 cs v d h
        exact h.ext (fun a ys _ e => k2 _ _ (ne_of_none e nD) e) fun a ys e => k2 _ _ (ne_of_none e nD) e
      obtain ⟨b, l, us, rfl, eb, hl', hu⟩ := hv.bat hB
      have eb1 := k _ _ (ne_of_none eb nD) eb
      have hl1 : SqH H1 l us := hl'.imp (fun e => k _ _ (ne_of_none e nD) e) (fun e => k _ _ (ne_of_none e nD) e)
      have lD : l ≠ D := hl'.elim (fun e => ne_of_none e nD) (fun e => ne_of_none e nD)
      have hi : i < bs.length := (List.getElem?_eq_some_iff.mp eB).1
      have et : bs.take (i + 1) = bs.take i ++ [B] := by rw [List.take_add_one, eB]; rfl
      have hul : us.length = B.pas.length := by rw [hu.1, List.length_map]
      have sub : ∀ (B' : Bat3) (q' : Pas3), (B' ∈ bs.take i ∨ B' = B) → q' ∈ B'.pas → PlaceP bs q'.pl := fun B' q' h hq => ⟨B', h.elim (fun z => List.mem_of_mem_take z) (fun z => z ▸ List.mem_of_getElem? eB), q', hq, rfl⟩
      refine ⟨rfl, _, rfl, b, _, 2, _, rfl, rfl, .inl (.inl eb1), atI_nat (j := 2) rfl, l, rfl, iseq_W1 hl1 (fun j H' => ∃ (S : Str → Bool) (n : Nat), H' D = some (StS.SetSO w D S n) ∧ HasT S n (fun x => (∃ B ∈ bs.take i, ∃ q ∈ B.pas, q.pl = x) ∨ ∃ q ∈ B.pas.take j, q.pl = x) ∧ ∀ b o, b ≠ D → H b = some o → H' b = some o) ⟨S, n, eD, ?_, k⟩ (fun j H' ⟨S, n, eD, _, k2⟩ o e => ?_) (fun j x H2 hxj ⟨S2, n2, eD2, hS2, k2⟩ => ?_) (fun H2 ⟨S2, n2, eD2, hS2, k2⟩ => ?_)⟩
      · obtain ⟨l0, g1, g2, g3, g4⟩ := hS
        exact ⟨l0, g1, g2, g3, fun x => (g4 x).trans ⟨.inl, fun y => y.elim id fun ⟨_, z, _⟩ => by simp at z⟩⟩
      · rcases hl' with f | f
        · have := k _ _ lD f
          rw [this] at e
          cases e
          exact k2 _ _ lD f
        · have := k _ _ lD f
          rw [this] at e
          cases e
          exact k2 _ _ lD f
      · obtain ⟨q', eq', hq'⟩ := hu.atM hxj
        obtain ⟨c, x0, r, rfl, ec, _⟩ := (kH k2 hq').pas
        have hq2 : q' ∈ B.pas := List.mem_of_getElem? eq'
        have le := hS2.le (zs := zs) fun x hx' => hz x (by
          rcases hx' with ⟨B', hB', q2, hq2', rfl⟩ | ⟨q2, hq2', rfl⟩
          · exact sub B' q2 (.inl hB') hq2'
          · exact sub B q2 (.inr rfl) (List.mem_of_mem_take hq2'))
        refine ⟨rfl, _, rfl, c, _, 1, _, rfl, rfl, .inl (.inl ec), atI_nat (j := 1) rfl, q'.pl, S2, n2, rfl, eD2, Nat.lt_of_lt_of_le (show n2 + 1 < 100 by omega) (by decide), _, _, upd_same, hS2.add fun x => ?_, fun b' o nb e => by rw [upd_ne nb]; exact k2 _ _ nb e⟩
        rw [List.take_add_one, eq']
        constructor
        · rintro (h | ⟨q2, hq2', rfl⟩)
          · exact .inl (.inl h)
          · rcases List.mem_append.mp hq2' with h | h
            · exact .inl (.inr ⟨q2, h, rfl⟩)
            · have h : q2 ∈ [q'] := h
              rw [List.mem_singleton.mp h]
              exact .inr rfl
        · rintro ((h | ⟨q2, h, rfl⟩) | rfl)
          · exact .inl h
          · exact .inr ⟨q2, List.mem_append_left _ h, rfl⟩
          · exact .inr ⟨q', List.mem_append_right _ (List.mem_singleton.mpr rfl), rfl⟩
      · refine ⟨S2, n2, eD2, ?_, k2⟩
        obtain ⟨l0, g1, g2, g3, g4⟩ := hS2
        refine ⟨l0, g1, g2, g3, fun x => (g4 x).trans ?_⟩
        rw [hul, List.take_length, et]
        constructor
        · rintro (⟨B', h, q2, h2, rfl⟩ | ⟨q2, h, rfl⟩)
          · exact ⟨B', List.mem_append_left _ h, q2, h2, rfl⟩
          · exact ⟨B, List.mem_append_right _ (List.mem_singleton.mpr rfl), q2, h, rfl⟩
        · rintro ⟨B', h, q2, h2, rfl⟩
          rcases List.mem_append.mp h with h | h
          · exact .inl ⟨B', h, q2, h2, rfl⟩
          · rw [List.mem_singleton.mp h] at h2
            exact .inr ⟨q2, h2, rfl⟩
    · have hl2 : xs.length = bs.length := by rw [hx.1, hR.1]
      rw [hl2, List.take_length] at hS
      have le := hS.le hz
      refine ⟨D, S, n, rfl, eD, by omega, fun ps p up nd mem cnt np => ?_⟩
      have sp := same_upd (o := .lst (ps.map V.str)) np
      obtain ⟨l0, g1, g2, g3, g4⟩ := hS
      have s0 : Same H H' := fun b o e => k _ _ (ne_of_none e nD) e
      exact q p ps _ (s0.free np) (s0.trans sp) upd_same ⟨up, nd, fun x => (mem x).trans ((g3 x).trans (g4 x))⟩ (by omega)
end

/-! ### gaps and rows: what they are -/
theorem min_spec : ∀ {xs : List Int}, xs ≠ [] → minL xs ∈ xs ∧ ∀ x ∈ xs, minL xs ≤ x := by
  have ex : ∀ xs : List Int, xs ≠ [] → ∃ m, m ∈ xs ∧ ∀ x ∈ xs, m ≤ x := by
    intro xs
    induction xs with
    | nil => exact fun h => absurd rfl h
    | cons a r ih =>
      intro _
      by_cases c : r = []
      · exact ⟨a, List.mem_cons_self .., fun x hx => by rw [c] at hx; rw [List.mem_singleton.mp hx]; exact Int.le_refl _⟩
      · obtain ⟨m, h1, h2⟩ := ih c
        by_cases c2 : a ≤ m
        · exact ⟨a, List.mem_cons_self .., fun x hx => (List.mem_cons.mp hx).elim (fun e => by omega) fun e => by have := h2 x e; omega⟩
        · exact ⟨m, List.mem_cons_of_mem _ h1, fun x hx => (List.mem_cons.mp hx).elim (fun e => by omega) fun e => h2 x e⟩
  intro xs h
  obtain ⟨m, h1, h2⟩ := ex xs h
  rw [minL_eq h1 h2]
  exact ⟨h1, h2⟩
theorem max_spec : ∀ {xs : List Int}, xs ≠ [] → maxL xs ∈ xs ∧ ∀ x ∈ xs, x ≤ maxL xs := by
  have ex : ∀ xs : List Int, xs ≠ [] → ∃ m, m ∈ xs ∧ ∀ x ∈ xs, x ≤ m := by
    intro xs
    induction xs with
    | nil => exact fun h => absurd rfl h
    | cons a r ih =>
      intro _
      by_cases c : r = []
      · exact ⟨a, List.mem_cons_self .., fun x hx => by rw [c] at hx; rw [List.mem_singleton.mp hx]; exact Int.le_refl _⟩
      · obtain ⟨m, h1, h2⟩ := ih c
        by_cases c2 : m ≤ a
        · exact ⟨a, List.mem_cons_self .., fun x hx => (List.mem_cons.mp hx).elim (fun e => by omega) fun e => by have := h2 x e; omega⟩
        · exact ⟨m, List.mem_cons_of_mem _ h1, fun x hx => (List.mem_cons.mp hx).elim (fun e => by omega) fun e => h2 x e⟩
  intro xs h
  obtain ⟨m, h1, h2⟩ := ex xs h
  rw [maxL_eq h1 h2]
  exact ⟨h1, h2⟩
/-- of any pairs there is a set -/
theorem told_ex (ps : List (Int × Int)) : Told (InS ps) (setL ps) := by
  let qs := (ps.filter fun p => decide (p.1 ≤ p.2)).mergeSort fun p q => decide (p.1 ≤ q.1)
  have hpm : qs.Perm (ps.filter fun p => decide (p.1 ≤ p.2)) := List.mergeSort_perm _ _
  have hle : ∀ p ∈ qs, p.1 ≤ p.2 := fun p hp => of_decide_eq_true (List.mem_filter.mp (hpm.mem_iff.mp hp)).2
  have hord : qs.Pairwise fun p q => p.1 ≤ q.1 := by
    have z := List.pairwise_mergeSort (le := fun p q : Int × Int => decide (p.1 ≤ q.1)) (fun a b c h1 h2 => decide_eq_true (Int.le_trans (of_decide_eq_true h1) (of_decide_eq_true h2))) (fun a b => by
      rcases Int.le_total a.1 b.1 with h | h
      · simp [h]
      · simp [h]) (ps.filter fun p => decide (p.1 ≤ p.2))
    exact z.imp fun h => of_decide_eq_true h
  have main : ∀ n, n ≤ qs.length → ∃ rs, Mrg (qs.take n) rs := by
    intro n
    induction n with
    | zero => exact fun _ => ⟨[], Mrg.nil⟩
    | succ n ih =>
      intro hn
      obtain ⟨rs, m⟩ := ih (by omega)
      have hlt : n < qs.length := by omega
      have et : qs.take (n + 1) = qs.take n ++ [qs[n]] := by rw [List.take_add_one, List.getElem?_eq_getElem hlt]; rfl
      have hp := hle qs[n] (List.getElem_mem hlt)
      have ord : ∀ q ∈ qs.take n, q.1 ≤ qs[n].1 := fun q hq => by
        have h2 := hord
        rw [← List.take_append_drop n qs, List.pairwise_append] at h2
        exact h2.2.2 q hq _ (by rw [List.drop_eq_getElem_cons hlt]; exact List.mem_cons_self ..)
      rw [et]
      rcases snoc_cases rs with e0 | ⟨rs', ⟨a, b⟩, e0⟩
      · subst e0
        exact ⟨_, m.new hp ord fun _ z => nomatch z⟩
      · subst e0
        by_cases c : qs[n].1 ≤ b + 1
        · exact ⟨_, m.join hp ord c⟩
        · refine ⟨_, m.new hp ord fun r hr => ?_⟩
          obtain ⟨lo, hR⟩ := m.ris
          obtain ⟨_, h2, _, h4⟩ := Ris.front hR
          have h4' : a ≤ b := h4
          rcases List.mem_append.mp hr with y | y
          · have : r.2 + 2 ≤ a := h2 r y
            omega
          · rw [List.mem_singleton.mp y]
            show b + 2 ≤ qs[n].1
            omega
  obtain ⟨rs, m⟩ := main qs.length (Nat.le_refl _)
  rw [List.take_length] at m
  have t : Told (InS ps) rs := ⟨m.ris, m.same.trans fun n => by
    constructor
    · rintro ⟨r, hr, e⟩
      exact ⟨r, (List.mem_filter.mp (hpm.mem_iff.mp hr)).1, e⟩
    · rintro ⟨r, hr, e⟩
      exact ⟨r, hpm.mem_iff.mpr (List.mem_filter.mpr ⟨hr, decide_eq_true (by omega)⟩), e⟩⟩
  have e := t.canon
  unfold setL
  rw [← e]
  exact t
theorem gaps_ok : ∀ {ps : List (Int × Int)} {s lo : Int}, Ris lo ps → s ≤ lo → ∀ g ∈ gapsO s ps, s ≤ g.1 ∧ (g.1 = s ∨ InS ps (g.1 - 1)) ∧ (∀ e, g.2 = some e → g.1 ≤ e ∧ InS ps (e + 1)) ∧ ∀ n, g.1 ≤ n → (∀ e, g.2 = some e → n ≤ e) → ¬ InS ps n
  | [], s, _, _, _, g, hg => by
    rw [List.mem_singleton.mp hg]
    exact ⟨Int.le_refl _, .inl rfl, (fun e z => nomatch z), fun n _ _ => inS_nil⟩
  | p :: r, s, lo, hR, hs, g, hg => by
    have hlo := hR.1
    have hp := hR.2.1
    have inp : ∀ n, p.1 ≤ n → n ≤ p.2 → InS (p :: r) n := fun n h1 h2 => inS_cons.mpr (.inl ⟨h1, h2⟩)
    rcases List.mem_append.mp hg with h | h
    · by_cases c : s < p.1
      · rw [if_pos c] at h
        rw [List.mem_singleton.mp h]
        refine ⟨Int.le_refl _, .inl rfl, fun e z => ?_, fun n h1 h2 z => ?_⟩
        · cases z
          exact ⟨by show s ≤ p.1 - 1; omega, inp _ (by omega) (by omega)⟩
        · have h2 := h2 (p.1 - 1) rfl
          rcases inS_cons.mp z with y | y
          · omega
          · have := Ris.low hR.2.2 y
            omega
      · rw [if_neg c] at h
        cases h
    · obtain ⟨g1, g2, g3, g4⟩ := gaps_ok hR.2.2 (show p.2 + 1 ≤ p.2 + 2 by omega) g h
      refine ⟨by omega, ?_, fun e z => ⟨(g3 e z).1, inS_cons.mpr (.inr (g3 e z).2)⟩, fun n h1 h2 z => ?_⟩
      · rcases g2 with y | y
        · exact .inr (by rw [y]; exact inp _ (by omega) (by omega))
        · exact .inr (inS_cons.mpr (.inr y))
      · rcases inS_cons.mp z with y | y
        · omega
        · exact g4 n h1 h2 y
/-- the bad ones' windows, where each has one -/
def wBad (seen : Seen) : List (Int × Int) := (badsF seen).filterMap id
theorem mem_wBad {seen : Seen} {w : Int × Int} : w ∈ wBad seen ↔ (some w, true) ∈ seen := by
  unfold wBad badsF
  rw [List.mem_filterMap]
  constructor
  · rintro ⟨o, ho, e⟩
    obtain ⟨⟨o', b⟩, hx, rfl⟩ := List.mem_map.mp ho
    obtain ⟨h1, h2⟩ := List.mem_filter.mp hx
    have h2 : b = true := h2
    have e : o' = some w := e
    rw [h2, e] at h1
    exact h1
  · intro h
    exact ⟨some w, List.mem_map.mpr ⟨(some w, true), List.mem_filter.mpr ⟨h, rfl⟩, rfl⟩, rfl⟩
theorem mem_goods {seen : Seen} {w : Int × Int} : w ∈ goodsF seen ↔ (some w, false) ∈ seen := by
  unfold goodsF
  rw [List.mem_filterMap]
  constructor
  · rintro ⟨⟨o', b⟩, hx, e⟩
    obtain ⟨h1, h2⟩ := List.mem_filter.mp hx
    have h2 : b = false := by
      cases b with
      | false => rfl
      | true => cases h2
    have e : o' = some w := e
    rw [h2, e] at h1
    exact h1
  · intro h
    exact ⟨(some w, false), List.mem_filter.mpr ⟨h, rfl⟩, rfl⟩
theorem mem_none {seen : Seen} : none ∈ badsF seen ↔ (none, true) ∈ seen := by
  unfold badsF
  constructor
  · intro h
    obtain ⟨⟨o', b⟩, hx, e⟩ := List.mem_map.mp h
    obtain ⟨h1, h2⟩ := List.mem_filter.mp hx
    have h2 : b = true := h2
    have e : o' = none := e
    rw [h2, e] at h1
    exact h1
  · intro h
    exact List.mem_map.mpr ⟨(none, true), List.mem_filter.mpr ⟨h, rfl⟩, rfl⟩
/-- a fault from a minute to another one can have been -/
def isFaultF (seen : Seen) (x y : Int) : Bool := decide (x ≤ y) && (!(seen.any fun s => s.2 && s.1.isNone) && seen.all fun s => match s.1 with
  | none => true
  | some r => (decide (r.1 ≤ y) && decide (x ≤ r.2)) == s.2)
theorem isF_iff {seen : Seen} {x y : Int} : isFaultF seen x y = true ↔ x ≤ y ∧ none ∉ badsF seen ∧ (∀ w ∈ wBad seen, w.1 ≤ y ∧ x ≤ w.2) ∧ ∀ w ∈ goodsF seen, ¬ (w.1 ≤ y ∧ x ≤ w.2) := by
  unfold isFaultF
  rw [Bool.and_eq_true, Bool.and_eq_true, decide_eq_true_eq, Bool.not_eq_true', ← Bool.not_eq_true, List.any_eq_true, List.all_eq_true]
  refine and_congr Iff.rfl ?_
  constructor
  · rintro ⟨h1, h2⟩
    refine ⟨fun z => h1 ⟨(none, true), mem_none.mp z, rfl⟩, fun w hw => ?_, fun w hw z => ?_⟩
    · have := h2 _ (mem_wBad.mp hw)
      simpa using this
    · have := h2 _ (mem_goods.mp hw)
      simp [z.1, z.2] at this
  · rintro ⟨h1, h2, h3⟩
    refine ⟨?_, fun s hs => ?_⟩
    · rintro ⟨⟨o, b⟩, hs, e⟩
      cases o with
      | some _ => simp at e
      | none =>
        simp at e
        rw [e] at hs
        exact h1 (mem_none.mpr hs)
    · obtain ⟨o, b⟩ := s
      cases o with
      | none => rfl
      | some w =>
        cases b with
        | true =>
          have := h2 w (mem_wBad.mpr hs)
          simp [this.1, this.2]
        | false =>
          have := h3 w (mem_goods.mpr hs)
          show ((decide (w.1 ≤ y) && decide (x ≤ w.2)) == false) = true
          by_cases c1 : w.1 ≤ y
          · have c2 : ¬ x ≤ w.2 := fun z => this ⟨c1, z⟩
            simp [c1, c2]
          · simp [c1]
/-- the windows are in order -/
def WinOk (seen : Seen) : Prop := ∀ s ∈ seen, ∀ q, s.1 = some q → 0 ≤ q.1 ∧ q.1 ≤ q.2
theorem clear_of {seen : Seen} (hok : WinOk seen) {x y : Int} (hxy : x ≤ y) (h : ∀ n, x ≤ n → n ≤ y → ¬ InS (goodsF seen) n) : ∀ w ∈ goodsF seen, ¬ (w.1 ≤ y ∧ x ≤ w.2) := fun w hw ⟨z1, z2⟩ => by
  have hw2 := hok _ (mem_goods.mp hw) w rfl
  by_cases c : x ≤ w.1
  · exact h w.1 c z1 ⟨w, hw, Int.le_refl _, hw2.2⟩
  · exact h x (Int.le_refl _) hxy ⟨w, hw, by omega, z2⟩
/-- what a told row is -/
structure RowOk (seen : Seen) (r : Row4) (far : Int) : Prop where
  nn : 0 ≤ r.1
  fst : 0 < r.1 → InS (goodsF seen) (r.1 - 1)
  lst : ∀ e, r.2.1 = some e → InS (goodsF seen) (e + 1)
  whole : isFaultF seen r.1 far = true
  late : isFaultF seen r.2.2.1 (if r.2.2.2 > r.2.2.1 then r.2.2.2 else r.2.2.1) = true
  early : isFaultF seen (if r.2.2.2 < r.2.2.1 then r.2.2.2 else r.2.2.1) r.2.2.2 = true
  between : r.1 ≤ r.2.2.1 ∧ r.2.2.1 ≤ far
  later : r.2.2.1 + 1 ≤ far → ∀ y, isFaultF seen (r.2.2.1 + 1) y = false
  sooner : r.2.2.2 ≠ r.1 → ∀ x, isFaultF seen x (r.2.2.2 - 1) = false
theorem rowOk {seen : Seen} (hok : WinOk seen) (hbad : ∃ s ∈ seen, s.2 = true) {r : Row4} (hr : r ∈ rowsAtF seen) {far : Int} (h1 : ∀ e, r.2.1 = some e → far = e) (h2 : r.2.1 = none → ∀ s ∈ seen, ∀ w, s.1 = some w → w.2 ≤ far) : RowOk seen r far := by
  unfold rowsAtF at hr
  by_cases hn : none ∈ badsF seen
  · rw [if_pos hn] at hr
    cases hr
  rw [if_neg hn] at hr
  have hr : r ∈ (gapsO 0 (setL (goodsF seen))).filterMap (rowG (minL ((wBad seen).map (·.2))) (maxL ((wBad seen).map (·.1)))) := hr
  have hne : wBad seen ≠ [] := by
    obtain ⟨⟨o, b⟩, hs, e⟩ := hbad
    have e : b = true := e
    subst e
    cases o with
    | none => exact absurd (mem_none.mpr hs) hn
    | some w => exact List.ne_nil_of_mem (mem_wBad.mpr hs)
  obtain ⟨hf1, hf2⟩ := min_spec (xs := (wBad seen).map (·.2)) (by simpa using hne)
  obtain ⟨hb1, hb2⟩ := max_spec (xs := (wBad seen).map (·.1)) (by simpa using hne)
  generalize minL ((wBad seen).map (·.2)) = fe at hr hf1 hf2
  generalize maxL ((wBad seen).map (·.1)) = lb at hr hb1 hb2
  obtain ⟨w1, hw1, rfl⟩ := List.mem_map.mp hf1
  obtain ⟨w2, hw2, rfl⟩ := List.mem_map.mp hb1
  have hf2 : ∀ w ∈ wBad seen, w1.2 ≤ w.2 := fun w hw => hf2 _ (List.mem_map.mpr ⟨w, hw, rfl⟩)
  have hb2 : ∀ w ∈ wBad seen, w.1 ≤ w2.1 := fun w hw => hb2 _ (List.mem_map.mpr ⟨w, hw, rfl⟩)
  have o1 := hok _ (mem_wBad.mp hw1) w1 rfl
  have o2 := hok _ (mem_wBad.mp hw2) w2 rfl
  obtain ⟨g, hg, eg⟩ := List.mem_filterMap.mp hr
  have t := told_ex (goodsF seen)
  obtain ⟨lo, hR⟩ := t.ris
  have hlo0 : ∀ n, InS (setL (goodsF seen)) n → 0 ≤ n := fun n hn' => by
    obtain ⟨w, hw, e1, e2⟩ := (t.same n).mp hn'
    have := hok _ (mem_goods.mp hw) w rfl
    omega
  have hR0 : Ris 0 (setL (goodsF seen)) := by
    revert hR hlo0
    cases setL (goodsF seen) with
    | nil => exact fun _ _ => True.intro
    | cons p rr => exact fun h h0 => ⟨h0 p.1 ⟨p, List.mem_cons_self .., Int.le_refl _, h.2.1⟩, h.2.1, h.2.2⟩
  obtain ⟨g1, g2, g3, g4⟩ := gaps_ok hR0 (Int.le_refl 0) g hg
  have g2 : 0 < g.1 → InS (goodsF seen) (g.1 - 1) := fun z => g2.elim (fun e => by omega) fun e => (t.same _).mp e
  have g3 : ∀ e, g.2 = some e → g.1 ≤ e ∧ InS (goodsF seen) (e + 1) := fun e z => ⟨(g3 e z).1, (t.same _).mp (g3 e z).2⟩
  have g4 : ∀ n, g.1 ≤ n → (∀ e, g.2 = some e → n ≤ e) → ¬ InS (goodsF seen) n := fun n a b z => g4 n a b ((t.same n).mpr z)
  have isf : ∀ x y, x ≤ y → g.1 ≤ x → (∀ e, g.2 = some e → y ≤ e) → (∀ w ∈ wBad seen, w.1 ≤ y ∧ x ≤ w.2) → isFaultF seen x y = true := fun x y a b c d => isF_iff.mpr ⟨a, hn, d, clear_of hok a fun n n1 n2 => g4 n (by omega) fun e z => by have := c e z; omega⟩
  have notF : ∀ x y (w : Int × Int), w ∈ wBad seen → ¬ (w.1 ≤ y ∧ x ≤ w.2) → isFaultF seen x y = false := fun x y w hw hnot => by
    cases c : isFaultF seen x y with
    | false => rfl
    | true => exact absurd ((isF_iff.mp c).2.2.1 w hw) hnot
  unfold rowG at eg
  cases e2 : g.2 with
  | none =>
    rw [e2] at eg
    have eg : (if g.1 ≤ w1.2 then some (g.1, none, w1.2, if g.1 > w2.1 then g.1 else w2.1) else none) = some r := eg
    by_cases c : g.1 ≤ w1.2
    · rw [if_pos c] at eg
      cases eg
      have hfar := h2 rfl
      have f1 : w1.2 ≤ far := hfar _ (mem_wBad.mp hw1) w1 rfl
      have f2 : w2.2 ≤ far := hfar _ (mem_wBad.mp hw2) w2 rfl
      have no : ∀ y : Int, ∀ e, g.2 = some e → y ≤ e := fun y e z => by rw [e2] at z; cases z
      refine ⟨g1, g2, (fun e z => nomatch z), isf _ _ (by show g.1 ≤ far; omega) (Int.le_refl _) (no _) fun w hw => ?_, isf _ _ ?_ c (no _) fun w hw => ?_, isf _ _ ?_ ?_ (no _) fun w hw => ?_, ⟨c, f1⟩, fun _ y => notF _ _ w1 hw1 (by show ¬ (_ ∧ w1.2 + 1 ≤ w1.2); omega), fun z x => notF _ _ w2 hw2 ?_⟩
      · have := hb2 w hw
        have := hf2 w hw
        exact ⟨by show w.1 ≤ far; omega, by show g.1 ≤ w.2; omega⟩
      · show w1.2 ≤ (if (if g.1 > w2.1 then g.1 else w2.1) > w1.2 then (if g.1 > w2.1 then g.1 else w2.1) else w1.2)
        by_cases c5 : g.1 > w2.1
        · simp only [if_pos c5]
          split <;> omega
        · simp only [if_neg c5]
          split <;> omega
      · have := hb2 w hw
        have := hf2 w hw
        refine ⟨?_, by show w1.2 ≤ w.2; omega⟩
        show w.1 ≤ (if (if g.1 > w2.1 then g.1 else w2.1) > w1.2 then (if g.1 > w2.1 then g.1 else w2.1) else w1.2)
        by_cases c5 : g.1 > w2.1
        · simp only [if_pos c5]
          split <;> omega
        · simp only [if_neg c5]
          split <;> omega
      · show (if (if g.1 > w2.1 then g.1 else w2.1) < w1.2 then (if g.1 > w2.1 then g.1 else w2.1) else w1.2) ≤ (if g.1 > w2.1 then g.1 else w2.1)
        split <;> omega
      · show g.1 ≤ (if (if g.1 > w2.1 then g.1 else w2.1) < w1.2 then (if g.1 > w2.1 then g.1 else w2.1) else w1.2)
        split <;> split at * <;> omega
      · have := hb2 w hw
        have := hf2 w hw
        refine ⟨?_, ?_⟩
        · show w.1 ≤ (if g.1 > w2.1 then g.1 else w2.1)
          split <;> omega
        · show (if (if g.1 > w2.1 then g.1 else w2.1) < w1.2 then (if g.1 > w2.1 then g.1 else w2.1) else w1.2) ≤ w.2
          split <;> omega
      · have z : (if g.1 > w2.1 then g.1 else w2.1) ≠ g.1 := z
        show ¬ (w2.1 ≤ (if g.1 > w2.1 then g.1 else w2.1) - 1 ∧ _)
        split at z
        · exact absurd rfl z
        · rename_i c3
          rw [if_neg c3]
          omega
    · rw [if_neg c] at eg
      cases eg
  | some l =>
    rw [e2] at eg
    have eg : (if g.1 ≤ w1.2 ∧ w2.1 ≤ l then some (g.1, some l, if l < w1.2 then l else w1.2, if g.1 > w2.1 then g.1 else w2.1) else none) = some r := eg
    by_cases c : g.1 ≤ w1.2 ∧ w2.1 ≤ l
    · rw [if_pos c] at eg
      cases eg
      have ef := h1 l rfl
      subst ef
      obtain ⟨c1, c2⟩ := c
      have g5 := (g3 far e2).1
      have no : ∀ y : Int, y ≤ far → ∀ e, g.2 = some e → y ≤ e := fun y hy e z => by rw [e2] at z; cases z; exact hy
      refine ⟨g1, g2, fun e z => by cases z; exact (g3 far e2).2, isf _ _ g5 (Int.le_refl _) (no _ (Int.le_refl _)) fun w hw => ?_, isf _ _ ?_ ?_ (no _ ?_) fun w hw => ?_, isf _ _ ?_ ?_ (no _ ?_) fun w hw => ?_, ⟨?_, ?_⟩, fun z y => ?_, fun z x => notF _ _ w2 hw2 ?_⟩
      · have := hb2 w hw
        have := hf2 w hw
        exact ⟨by show w.1 ≤ far; omega, by show g.1 ≤ w.2; omega⟩
      · show (if far < w1.2 then far else w1.2) ≤ (if (if g.1 > w2.1 then g.1 else w2.1) > (if far < w1.2 then far else w1.2) then (if g.1 > w2.1 then g.1 else w2.1) else (if far < w1.2 then far else w1.2))
        split <;> split <;> split <;> omega
      · show g.1 ≤ (if far < w1.2 then far else w1.2)
        split <;> omega
      · show (if (if g.1 > w2.1 then g.1 else w2.1) > (if far < w1.2 then far else w1.2) then (if g.1 > w2.1 then g.1 else w2.1) else (if far < w1.2 then far else w1.2)) ≤ far
        split <;> split <;> split <;> omega
      · have := hb2 w hw
        have := hf2 w hw
        refine ⟨?_, ?_⟩
        · show w.1 ≤ (if (if g.1 > w2.1 then g.1 else w2.1) > (if far < w1.2 then far else w1.2) then (if g.1 > w2.1 then g.1 else w2.1) else (if far < w1.2 then far else w1.2))
          split <;> split at * <;> split at * <;> omega
        · show (if far < w1.2 then far else w1.2) ≤ w.2
          split <;> omega
      · show (if (if g.1 > w2.1 then g.1 else w2.1) < (if far < w1.2 then far else w1.2) then (if g.1 > w2.1 then g.1 else w2.1) else (if far < w1.2 then far else w1.2)) ≤ (if g.1 > w2.1 then g.1 else w2.1)
        split <;> split <;> split <;> omega
      · show g.1 ≤ (if (if g.1 > w2.1 then g.1 else w2.1) < (if far < w1.2 then far else w1.2) then (if g.1 > w2.1 then g.1 else w2.1) else (if far < w1.2 then far else w1.2))
        split <;> split <;> split <;> omega
      · show (if g.1 > w2.1 then g.1 else w2.1) ≤ far
        split <;> omega
      · have := hb2 w hw
        have := hf2 w hw
        refine ⟨?_, ?_⟩
        · show w.1 ≤ (if g.1 > w2.1 then g.1 else w2.1)
          split <;> omega
        · show (if (if g.1 > w2.1 then g.1 else w2.1) < (if far < w1.2 then far else w1.2) then (if g.1 > w2.1 then g.1 else w2.1) else (if far < w1.2 then far else w1.2)) ≤ w.2
          split <;> split at * <;> split at * <;> omega
      · show g.1 ≤ (if far < w1.2 then far else w1.2)
        split <;> omega
      · show (if far < w1.2 then far else w1.2) ≤ far
        split <;> omega
      · have z : (if far < w1.2 then far else w1.2) + 1 ≤ far := z
        refine notF _ _ w1 hw1 ?_
        show ¬ (_ ∧ (if far < w1.2 then far else w1.2) + 1 ≤ w1.2)
        split at z
        · omega
        · rename_i c3
          rw [if_neg c3]
          omega
      · have z : (if g.1 > w2.1 then g.1 else w2.1) ≠ g.1 := z
        show ¬ (w2.1 ≤ (if g.1 > w2.1 then g.1 else w2.1) - 1 ∧ _)
        split at z
        · exact absurd rfl z
        · rename_i c3
          rw [if_neg c3]
          omega
    · rw [if_neg c] at eg
      cases eg

/-! ### rows walked by generator expressions, comprehensions -/
theorem NoTab.same {H H' : Hp} (s : Same H H') : GX.NoTab H H' := .of s
theorem SqH.noTab {H H' : Hp} {a : Addr} {xs : List V} (h : SqH H a xs) (n : GX.NoTab H H') : SqH H' a xs := h.elim (fun e => .inl (n.lst e)) (fun e => .inr (n.tup e))
theorem LsQ.noTab {H H' : Hp} {a : Addr} {rs : List (Int × Int)} (h : LsQ H a rs) (n : GX.NoTab H H') : LsQ H' a rs := by
  obtain ⟨us, e, p⟩ := h
  exact ⟨us, e.noTab n, p.1, fun i r er => let ⟨x, h1, h2⟩ := p.2 i r er; ⟨x, h1, n.tup h2⟩⟩
theorem IntsQ.noTab {H H' : Hp} {a : Addr} {ns : List Int} (h : IntsQ H a ns) (n : GX.NoTab H H') : IntsQ H' a ns := SqH.noTab h n
theorem iseq_lc {K : PySem.W.Frag} {H : Hp} {a : Addr} {xs : List V} {g : TG} {tt : TT} {te : TE} {vs : List Nat} {σ : L2.St} {Qd : Addr → Hp → Prop} (h : SqH H a xs) (r : ∀ J G, Walk J xs.length G (YAt xs) → (∀ H', GX.NoTab H H' → G H') → ∀ D, H D = none → LcR J g tt te vs σ D Qd H) :
    ((∃ xs, SqL K H a xs) ∧ ∀ D, H D = none → LcR (Itl K a) g tt te vs σ D Qd H) ∨ ((∃ xs, SqT K H a xs) ∧ ∀ D, H D = none → LcR (Itt K a) g tt te vs σ D Qd H) := by
  rcases h with e | e
  · exact .inl ⟨⟨_, SqL.of e⟩, r _ _ walk_list fun H' n => SqL.of (n.lst e)⟩
  · exact .inr ⟨⟨_, .inl (.inl e)⟩, r _ _ walk_tup fun H' n => .inl (.inl (n.tup e))⟩

/-! ### zip of a list and a tuple -/
def ItzM (K : PySem.W.Frag) (a b : Addr) : It :=
  ⟨fun i H => ∃ (xs ys : List V) (x y : V), SqL K H a xs ∧ SqT K H b ys ∧ xs[i]? = some x ∧ ys[i]? = some y,
    fun i H v H' => ∃ T x y, v = .ref T ∧ H T = none ∧ H' = upd H T (.tup [x, y]) ∧ (∀ xs, SqL K H a xs → xs[i]? = some x) ∧ ∀ ys, SqT K H b ys → ys[i]? = some y,
    fun i H => ∃ xs ys : List V, SqL K H a xs ∧ SqT K H b ys ∧ i ≤ xs.length ∧ i ≤ ys.length ∧ (i = xs.length ∨ i = ys.length)⟩
theorem turn_zipM {P : Program} {w : World} {K : PySem.W.Frag} {elts : List Expr} {kk : Nat} {tpos : Pos} {a b z TI TO i1 i2 : Addr} (D : ZipSep2 z TI TO i1 i2 [i1, a] [i2, b]) (n1 : a ≠ i1) (n2 : b ≠ i2) :
    Turn P w K (.Tuple elts kk tpos) (ItzM K a b) [z, TI, TO, i1, i2] z (fun i h => IsZip h z TI TO .none ∧ IsTupOf2 h TI (.ref i1) (.ref i2) ∧ (∃ x y, IsTupOf2 h TO x y) ∧ h.IsListIter i1 a i ∧ h.IsTupleIter i2 b i) where
  mem := by simp
  obj := fun i h st c hc => by
    obtain ⟨hz, hTI, ⟨x, y, hTO⟩, ⟨o1, e1, _, d1⟩, ⟨o2, e2, _, d2⟩⟩ := st
    have e' : c = z ∨ c = TI ∨ c = TO ∨ c = i1 ∨ c = i2 := by simpa using hc
    rcases e' with q | q | q | q | q
    · rw [q]; exact ⟨_, hz, fun v q => nomatch q⟩
    · rw [q]; exact ⟨_, hTI, fun v q => nomatch q⟩
    · rw [q]; exact ⟨_, hTO, fun v q => nomatch q⟩
    · rw [q]; exact ⟨o1, e1, fun v q => by rw [d1] at q; cases q⟩
    · rw [q]; exact ⟨o2, e2, fun v q => by rw [d2] at q; cases q⟩
  keep := fun i h h' st k => by
    obtain ⟨hz, hTI, ⟨x, y, hTO⟩, h1, h2⟩ := st
    exact ⟨k z (by simp) _ hz, k TI (by simp) _ hTI, ⟨x, y, k TO (by simp) _ hTO⟩, h1.at fun o q => k i1 (by simp) o q, h2.at fun o q => k i2 (by simp) o q⟩
  item := by
    intro X hP hw hK hc i pins s σ H E I hf st hg
    subst hP hw hK
    obtain ⟨hz, hTI, ⟨x0, y0, hTO⟩, h1, h2⟩ := st
    obtain ⟨xs, ys, x, y, hqx, hqy, hx, hy⟩ := hg
    obtain ⟨its, rv, p, _⟩ := I.list hqx
    obtain ⟨its2, rv2, p2, _⟩ := I.tuple hqy
    obtain ⟨u, hu, ru⟩ := rv.get hx
    obtain ⟨u2, hu2, ru2⟩ := rv2.get hy
    have hui : its.toArray[i]? = some u := by simpa using hu
    have hui2 : its2.toArray[i]? = some u2 := by simpa using hu2
    have hzl : z < s.heap.objs.size := Heap.lt_size hz
    have D1 := Draws.list (prog := X.prog) (w := X.w) (A := X.A.in1) (I.ok.hd hc) i1 a n1 its.toArray
    have D2 := Draws.tuple (prog := X.prog) (w := X.w) (A := X.A.in1) (I.ok.hd hc) i2 b n2 its2.toArray
    refine wpAny_pyNext_zipD2_item D D1 D2 hz hTI hTO ⟨h1, p.isList⟩ ⟨h2, p2⟩ (Array.getElem?_eq_some_iff.mp hui).1 (Array.getElem?_eq_some_iff.mp hui2).1 fun v1 v2 h' tk e1 e2 z' TO' h1' h2' hT hsz hk => ?_
    have ev1 : u = v1 := Option.some.inj (hui.symm.trans e1)
    have ev2 : u2 = v2 := Option.some.inj (hui2.symm.trans e2)
    subst ev1 ev2
    refine ⟨_, rfl, wpAny_letOwnedTupleGo_zip (s := { s with heap := h', toks := tk }) z' fun h'' z'' sb => ?_⟩
    have hT2 : h''.get? s.heap.objs.size = some { cls := .type "tuple", data := .seq #[u, u2] } := (sb.2 _ (Nat.ne_of_gt hzl)).trans hT
    have new : ObjOk X.prog X.w (upd H s.heap.objs.size (.tup [x, y])) h'' s.heap.objs.size (.tup [x, y]) :=
      ⟨by show 2 ≤ sizeLine; decide, [u, u2], .cons ru (.cons ru2 .nil), ⟨_, hT2, rfl, _, rfl⟩⟩
    have I1 : Inv X pins σ (upd H s.heap.objs.size (.tup [x, y])) { s with heap := h'', toks := tk } :=
      I.turnedNew (t' := tk) (ch := [z, TI, TO, i1, i2]) (fun c o hb q => (sb.2 c (fun q' => hb (by simp [q']))).trans (hk c o (fun q' => hb (by simp [q'])) (fun q' => hb (by simp [q'])) (fun q' => hb (by simp [q'])) (fun q' => hb (by simp [q'])) q)) hf (Nat.le_refl _) new
    refine ⟨.ref s.heap.objs.size, _, I1, rfl, ⟨_, x, y, rfl, I.hok.fresh (Nat.le_refl _), rfl, fun l hl => by rw [I.list_inj hl hqx]; exact hx, fun l hl => by rw [I.tuple_inj hl hqy]; exact hy⟩, ⟨z'', ?_, ⟨u, u2, ?_⟩, ?_, ?_⟩, fun c hcm => ?_⟩
    · exact (sb.2 _ D.TIz).trans (hk _ _ D.TIz D.TITO D.TIi1 D.TIi2 hTI)
    · exact (sb.2 _ D.TOz).trans TO'
    · exact h1'.1.at fun o q => (sb.2 _ D.zi1.symm).trans q
    · exact h2'.1.at fun o q => (sb.2 _ D.zi2.symm).trans q
    · have hlt : c < s.heap.objs.size := by
        have e' : c = z ∨ c = TI ∨ c = TO ∨ c = i1 ∨ c = i2 := by simpa using hcm
        rcases e' with q | q | q | q | q
        · rw [q]; exact hzl
        · rw [q]; exact Heap.lt_size hTI
        · rw [q]; exact Heap.lt_size hTO
        · rw [q]; obtain ⟨_, e1, _⟩ := h1; exact Heap.lt_size e1
        · rw [q]; obtain ⟨_, e2, _⟩ := h2; exact Heap.lt_size e2
      rw [upd_ne (Nat.ne_of_lt hlt)]
      exact (hf c hcm).1
  done := by
    intro X hP hw hK hc i pins s σ H E I hf st hg
    subst hP hw hK
    obtain ⟨hz, hTI, ⟨x0, y0, hTO⟩, h1, h2⟩ := st
    obtain ⟨xs, ys, hqx, hqy, g1, g2, hend⟩ := hg
    obtain ⟨its, rv, p, _⟩ := I.list hqx
    obtain ⟨its2, rv2, p2, _⟩ := I.tuple hqy
    have l1 : its.toArray.size = xs.length := by rw [List.size_toArray, rv.length]
    have l2 : its2.toArray.size = ys.length := by rw [List.size_toArray, rv2.length]
    have D1 := Draws.list (prog := X.prog) (w := X.w) (A := X.A.in1) (I.ok.hd hc) i1 a n1 its.toArray
    have D2 := Draws.tuple (prog := X.prog) (w := X.w) (A := X.A.in1) (I.ok.hd hc) i2 b n2 its2.toArray
    exact wpAny_pyNext_zipD2_end D D1 D2 hz hTI hTO ⟨h1, p.isList⟩ ⟨h2, p2⟩ (by omega) (by omega) (by omega) fun h' tk hk => ⟨rfl, I.turnedL (t' := tk) (ch := [z, TI, TO, i1, i2]) (fun c o hb q =>
      hk c o (fun q' => hb (by simp [q'])) (fun q' => hb (by simp [q'])) (fun q' => hb (by simp [q'])) (fun q' => hb (by simp [q'])) q) hf⟩
  self := fun A i s Q E st h => wpAny_pyIter_zip st.1 h
def iZipM (K : PySem.W.Frag) (ta : TA) : TI := fun σ H R => ta σ H fun vs H1 => ∃ a b xs ys, vs = [.ref a, .ref b] ∧ ((SqL K H1 a xs ∧ SqL K H1 b ys ∧ R (Itz K a b) H1) ∨ (SqL K H1 a xs ∧ SqT K H1 b ys ∧ R (ItzM K a b) H1))
theorem pi_zipM {X : Cx} {e e2 : Expr} {ta : TA} {p pos tpos : Pos} {elts : List Expr} {kk : Nat} (hg : Gl X "zip") (hm : X.mg "zip" = none) (ha : PA X [e, e2] ta)
    (hs : starEach [e, e2] X.env = (false, eval e X.env) :: starEach [e2] X.env := by rfl) (hpl : (backTo pos (starEach [e2] X.env)).any (·.1) = false := by rfl) :
    PI X (.Tuple elts kk tpos) (.Call (.Name "zip" p) [e, e2] [] pos) (iZipM X.K ta) := by
  refine ⟨fun pins s σ H R I h => ?_⟩
  refine Call_ (ld_blt I hg hm PyProof.Rows.boot_zip (PyProof.Rows.callWith_type1 (thn (ha.run pos pins s σ H _ I h) fun us s1 ⟨vs, H1, I1, r1, q1⟩ => ?_) hs hpl))
  obtain ⟨a, b, xs, ys, ex, q1⟩ := q1
  subst ex
  cases r1 with
  | cons r rr =>
    cases rr with
    | cons r' rr =>
      cases rr
      cases r
      cases r'
      have fresh5 : ∀ c, c ∈ [s1.heap.objs.size + 4, s1.heap.objs.size + 2, s1.heap.objs.size + 3, s1.heap.objs.size, s1.heap.objs.size + 1] → FpOk X pins H1 c := fun c hcm => by
        have e' : c = s1.heap.objs.size + 4 ∨ c = s1.heap.objs.size + 2 ∨ c = s1.heap.objs.size + 3 ∨ c = s1.heap.objs.size ∨ c = s1.heap.objs.size + 1 := by simpa using hcm
        have hle : s1.heap.objs.size ≤ c := by
          rcases e' with z | z | z | z | z
          · rw [z]; exact Nat.le_add_right _ _
          · rw [z]; exact Nat.le_add_right _ _
          · rw [z]; exact Nat.le_add_right _ _
          · rw [z]; exact Nat.le_refl _
          · rw [z]; exact Nat.le_add_right _ _
        exact I1.fpOk hle (I1.hok.fresh hle)
      rcases q1 with ⟨hqx, hqy, q⟩ | ⟨hqx, hqy, q⟩
      · obtain ⟨its, rv, p1, _⟩ := I1.list hqx
        obtain ⟨its2, rv2, p2, _⟩ := I1.list hqy
        refine call_zip_2 p1.isList p2.isList fun h' hz hTI hTO h1 h2 hsz hk => wpAny_pyIter_zip hz ?_
        have I2 : Inv X pins σ H1 { s1 with heap := h' } := I1.kept (t' := s1.toks) hk
        exact ⟨s1.heap.objs.size + 4, [s1.heap.objs.size + 4, s1.heap.objs.size + 2, s1.heap.objs.size + 3, s1.heap.objs.size, s1.heap.objs.size + 1], _, _, H1, rfl, I2, turn_zip (PySem.W.ktu_apart s1.heap.objs.size a b p1.lt p2.lt), ⟨hz, hTI, ⟨_, _, hTO⟩, h1, h2⟩, fresh5, q⟩
      · obtain ⟨its, rv, p1, _⟩ := I1.list hqx
        obtain ⟨its2, rv2, p2, _⟩ := I1.tuple hqy
        have la : a < s1.heap.objs.size := p1.lt
        have lb : b < s1.heap.objs.size := let ⟨_, ho, _⟩ := id p2; Heap.lt_size ho
        refine zip_begins2 (begins_list a its.toArray) (begins_tuple b its2.toArray) p1.isList p2 fun h' hz hTI hTO h1 h2 hsz hk => wpAny_pyIter_zip hz ?_
        have I2 : Inv X pins σ H1 { s1 with heap := h' } := I1.kept (t' := s1.toks) hk
        exact ⟨s1.heap.objs.size + 4, [s1.heap.objs.size + 4, s1.heap.objs.size + 2, s1.heap.objs.size + 3, s1.heap.objs.size, s1.heap.objs.size + 1], _, _, H1, rfl, I2, turn_zipM (zip_sep2 (N := s1.heap.objs.size) (fun c hc => by rw [List.mem_singleton.mp hc]; exact la) (fun c hc => by rw [List.mem_singleton.mp hc]; exact lb)) (Nat.ne_of_lt la) (Nat.ne_of_lt (Nat.lt_succ_of_lt lb)), ⟨hz, hTI, ⟨_, _, hTO⟩, ⟨_, h1, rfl, rfl⟩, ⟨_, h2, rfl, rfl⟩⟩, fresh5, q⟩
theorem walk_zipM {K : PySem.W.Frag} {a b : Addr} {xs ys : List V} (hl : xs.length = ys.length) : Walk (ItzM K a b) xs.length (fun H => SqL K H a xs ∧ SqT K H b ys) (YPair (fun i => xs[i]?) (fun i => ys[i]?)) where
  goes := fun i _ hi q => ⟨xs, ys, xs[i], ys[i]'(hl ▸ hi), q.1, q.2, List.getElem?_eq_getElem hi, List.getElem?_eq_getElem (hl ▸ hi)⟩
  stops := fun _ q => ⟨xs, ys, q.1, q.2, Nat.le_refl _, Nat.le_of_eq hl, .inl rfl⟩
  yields := fun i H v H' _ q ⟨T, x, y, h1, h2, h3, h4, h5⟩ => ⟨T, x, y, h1, h2, h3, h4 xs q.1, h5 ys q.2⟩
/-! ### zip of a tuple and a list -/
def ItzN (K : PySem.W.Frag) (a b : Addr) : It :=
  ⟨fun i H => ∃ (xs ys : List V) (x y : V), SqT K H a xs ∧ SqL K H b ys ∧ xs[i]? = some x ∧ ys[i]? = some y,
    fun i H v H' => ∃ T x y, v = .ref T ∧ H T = none ∧ H' = upd H T (.tup [x, y]) ∧ (∀ xs, SqT K H a xs → xs[i]? = some x) ∧ ∀ ys, SqL K H b ys → ys[i]? = some y,
    fun i H => ∃ xs ys : List V, SqT K H a xs ∧ SqL K H b ys ∧ i ≤ xs.length ∧ i ≤ ys.length ∧ (i = xs.length ∨ i = ys.length)⟩
theorem turn_zipN {P : Program} {w : World} {K : PySem.W.Frag} {elts : List Expr} {kk : Nat} {tpos : Pos} {a b z TI TO i1 i2 : Addr} (D : ZipSep2 z TI TO i1 i2 [i1, a] [i2, b]) (n1 : a ≠ i1) (n2 : b ≠ i2) :
    Turn P w K (.Tuple elts kk tpos) (ItzN K a b) [z, TI, TO, i1, i2] z (fun i h => IsZip h z TI TO .none ∧ IsTupOf2 h TI (.ref i1) (.ref i2) ∧ (∃ x y, IsTupOf2 h TO x y) ∧ h.IsTupleIter i1 a i ∧ h.IsListIter i2 b i) where
  mem := by simp
  obj := fun i h st c hc => by
    obtain ⟨hz, hTI, ⟨x, y, hTO⟩, ⟨o1, e1, _, d1⟩, ⟨o2, e2, _, d2⟩⟩ := st
    have e' : c = z ∨ c = TI ∨ c = TO ∨ c = i1 ∨ c = i2 := by simpa using hc
    rcases e' with q | q | q | q | q
    · rw [q]; exact ⟨_, hz, fun v q => nomatch q⟩
    · rw [q]; exact ⟨_, hTI, fun v q => nomatch q⟩
    · rw [q]; exact ⟨_, hTO, fun v q => nomatch q⟩
    · rw [q]; exact ⟨o1, e1, fun v q => by rw [d1] at q; cases q⟩
    · rw [q]; exact ⟨o2, e2, fun v q => by rw [d2] at q; cases q⟩
  keep := fun i h h' st k => by
    obtain ⟨hz, hTI, ⟨x, y, hTO⟩, h1, h2⟩ := st
    exact ⟨k z (by simp) _ hz, k TI (by simp) _ hTI, ⟨x, y, k TO (by simp) _ hTO⟩, h1.at fun o q => k i1 (by simp) o q, h2.at fun o q => k i2 (by simp) o q⟩
  item := by
    intro X hP hw hK hc i pins s σ H E I hf st hg
    subst hP hw hK
    obtain ⟨hz, hTI, ⟨x0, y0, hTO⟩, h1, h2⟩ := st
    obtain ⟨xs, ys, x, y, hqx, hqy, hx, hy⟩ := hg
    obtain ⟨its, rv, p, _⟩ := I.tuple hqx
    obtain ⟨its2, rv2, p2, _⟩ := I.list hqy
    obtain ⟨u, hu, ru⟩ := rv.get hx
    obtain ⟨u2, hu2, ru2⟩ := rv2.get hy
    have hui : its.toArray[i]? = some u := by simpa using hu
    have hui2 : its2.toArray[i]? = some u2 := by simpa using hu2
    have hzl : z < s.heap.objs.size := Heap.lt_size hz
    have D1 := Draws.tuple (prog := X.prog) (w := X.w) (A := X.A.in1) (I.ok.hd hc) i1 a n1 its.toArray
    have D2 := Draws.list (prog := X.prog) (w := X.w) (A := X.A.in1) (I.ok.hd hc) i2 b n2 its2.toArray
    refine wpAny_pyNext_zipD2_item D D1 D2 hz hTI hTO ⟨h1, p⟩ ⟨h2, p2.isList⟩ (Array.getElem?_eq_some_iff.mp hui).1 (Array.getElem?_eq_some_iff.mp hui2).1 fun v1 v2 h' tk e1 e2 z' TO' h1' h2' hT hsz hk => ?_
    have ev1 : u = v1 := Option.some.inj (hui.symm.trans e1)
    have ev2 : u2 = v2 := Option.some.inj (hui2.symm.trans e2)
    subst ev1 ev2
    refine ⟨_, rfl, wpAny_letOwnedTupleGo_zip (s := { s with heap := h', toks := tk }) z' fun h'' z'' sb => ?_⟩
    have hT2 : h''.get? s.heap.objs.size = some { cls := .type "tuple", data := .seq #[u, u2] } := (sb.2 _ (Nat.ne_of_gt hzl)).trans hT
    have new : ObjOk X.prog X.w (upd H s.heap.objs.size (.tup [x, y])) h'' s.heap.objs.size (.tup [x, y]) :=
      ⟨by show 2 ≤ sizeLine; decide, [u, u2], .cons ru (.cons ru2 .nil), ⟨_, hT2, rfl, _, rfl⟩⟩
    have I1 : Inv X pins σ (upd H s.heap.objs.size (.tup [x, y])) { s with heap := h'', toks := tk } :=
      I.turnedNew (t' := tk) (ch := [z, TI, TO, i1, i2]) (fun c o hb q => (sb.2 c (fun q' => hb (by simp [q']))).trans (hk c o (fun q' => hb (by simp [q'])) (fun q' => hb (by simp [q'])) (fun q' => hb (by simp [q'])) (fun q' => hb (by simp [q'])) q)) hf (Nat.le_refl _) new
    refine ⟨.ref s.heap.objs.size, _, I1, rfl, ⟨_, x, y, rfl, I.hok.fresh (Nat.le_refl _), rfl, fun l hl => by rw [I.tuple_inj hl hqx]; exact hx, fun l hl => by rw [I.list_inj hl hqy]; exact hy⟩, ⟨z'', ?_, ⟨u, u2, ?_⟩, ?_, ?_⟩, fun c hcm => ?_⟩
    · exact (sb.2 _ D.TIz).trans (hk _ _ D.TIz D.TITO D.TIi1 D.TIi2 hTI)
    · exact (sb.2 _ D.TOz).trans TO'
    · exact h1'.1.at fun o q => (sb.2 _ D.zi1.symm).trans q
    · exact h2'.1.at fun o q => (sb.2 _ D.zi2.symm).trans q
    · have hlt : c < s.heap.objs.size := by
        have e' : c = z ∨ c = TI ∨ c = TO ∨ c = i1 ∨ c = i2 := by simpa using hcm
        rcases e' with q | q | q | q | q
        · rw [q]; exact hzl
        · rw [q]; exact Heap.lt_size hTI
        · rw [q]; exact Heap.lt_size hTO
        · rw [q]; obtain ⟨_, e1, _⟩ := h1; exact Heap.lt_size e1
        · rw [q]; obtain ⟨_, e2, _⟩ := h2; exact Heap.lt_size e2
      rw [upd_ne (Nat.ne_of_lt hlt)]
      exact (hf c hcm).1
  done := by
    intro X hP hw hK hc i pins s σ H E I hf st hg
    subst hP hw hK
    obtain ⟨hz, hTI, ⟨x0, y0, hTO⟩, h1, h2⟩ := st
    obtain ⟨xs, ys, hqx, hqy, g1, g2, hend⟩ := hg
    obtain ⟨its, rv, p, _⟩ := I.tuple hqx
    obtain ⟨its2, rv2, p2, _⟩ := I.list hqy
    have l1 : its.toArray.size = xs.length := by rw [List.size_toArray, rv.length]
    have l2 : its2.toArray.size = ys.length := by rw [List.size_toArray, rv2.length]
    have D1 := Draws.tuple (prog := X.prog) (w := X.w) (A := X.A.in1) (I.ok.hd hc) i1 a n1 its.toArray
    have D2 := Draws.list (prog := X.prog) (w := X.w) (A := X.A.in1) (I.ok.hd hc) i2 b n2 its2.toArray
    exact wpAny_pyNext_zipD2_end D D1 D2 hz hTI hTO ⟨h1, p⟩ ⟨h2, p2.isList⟩ (by omega) (by omega) (by omega) fun h' tk hk => ⟨rfl, I.turnedL (t' := tk) (ch := [z, TI, TO, i1, i2]) (fun c o hb q =>
      hk c o (fun q' => hb (by simp [q'])) (fun q' => hb (by simp [q'])) (fun q' => hb (by simp [q'])) (fun q' => hb (by simp [q'])) q) hf⟩
  self := fun A i s Q E st h => wpAny_pyIter_zip st.1 h
def iZipN (K : PySem.W.Frag) (ta : TA) : TI := fun σ H R => ta σ H fun vs H1 => ∃ a b xs ys, vs = [.ref a, .ref b] ∧ SqT K H1 a xs ∧ SqL K H1 b ys ∧ R (ItzN K a b) H1
theorem pi_zipN {X : Cx} {e e2 : Expr} {ta : TA} {p pos tpos : Pos} {elts : List Expr} {kk : Nat} (hg : Gl X "zip") (hm : X.mg "zip" = none) (ha : PA X [e, e2] ta)
    (hs : starEach [e, e2] X.env = (false, eval e X.env) :: starEach [e2] X.env := by rfl) (hpl : (backTo pos (starEach [e2] X.env)).any (·.1) = false := by rfl) :
    PI X (.Tuple elts kk tpos) (.Call (.Name "zip" p) [e, e2] [] pos) (iZipN X.K ta) := by
  refine ⟨fun pins s σ H R I h => ?_⟩
  refine Call_ (ld_blt I hg hm PyProof.Rows.boot_zip (PyProof.Rows.callWith_type1 (thn (ha.run pos pins s σ H _ I h) fun us s1 ⟨vs, H1, I1, r1, q1⟩ => ?_) hs hpl))
  obtain ⟨a, b, xs, ys, ex, q1⟩ := q1
  subst ex
  cases r1 with
  | cons r rr =>
    cases rr with
    | cons r' rr =>
      cases rr
      cases r
      cases r'
      have fresh5 : ∀ c, c ∈ [s1.heap.objs.size + 4, s1.heap.objs.size + 2, s1.heap.objs.size + 3, s1.heap.objs.size, s1.heap.objs.size + 1] → FpOk X pins H1 c := fun c hcm => by
        have e' : c = s1.heap.objs.size + 4 ∨ c = s1.heap.objs.size + 2 ∨ c = s1.heap.objs.size + 3 ∨ c = s1.heap.objs.size ∨ c = s1.heap.objs.size + 1 := by simpa using hcm
        have hle : s1.heap.objs.size ≤ c := by
          rcases e' with z | z | z | z | z
          · rw [z]; exact Nat.le_add_right _ _
          · rw [z]; exact Nat.le_add_right _ _
          · rw [z]; exact Nat.le_add_right _ _
          · rw [z]; exact Nat.le_refl _
          · rw [z]; exact Nat.le_add_right _ _
        exact I1.fpOk hle (I1.hok.fresh hle)
      obtain ⟨hqx, hqy, q⟩ := q1
      obtain ⟨its, rv, p1, _⟩ := I1.tuple hqx
      obtain ⟨its2, rv2, p2, _⟩ := I1.list hqy
      have la : a < s1.heap.objs.size := let ⟨_, ho, _⟩ := id p1; Heap.lt_size ho
      have lb : b < s1.heap.objs.size := p2.lt
      refine zip_begins2 (begins_tuple a its.toArray) (begins_list b its2.toArray) p1 p2.isList fun h' hz hTI hTO h1 h2 hsz hk => wpAny_pyIter_zip hz ?_
      have I2 : Inv X pins σ H1 { s1 with heap := h' } := I1.kept (t' := s1.toks) hk
      exact ⟨s1.heap.objs.size + 4, [s1.heap.objs.size + 4, s1.heap.objs.size + 2, s1.heap.objs.size + 3, s1.heap.objs.size, s1.heap.objs.size + 1], _, _, H1, rfl, I2, turn_zipN (zip_sep2 (N := s1.heap.objs.size) (fun c hc => by rw [List.mem_singleton.mp hc]; exact la) (fun c hc => by rw [List.mem_singleton.mp hc]; exact lb)) (Nat.ne_of_lt la) (Nat.ne_of_lt (Nat.lt_succ_of_lt lb)), ⟨hz, hTI, ⟨_, _, hTO⟩, ⟨_, h1, rfl, rfl⟩, ⟨_, h2, rfl, rfl⟩⟩, fresh5, q⟩
theorem walk_zipN {K : PySem.W.Frag} {a b : Addr} {xs ys : List V} (hl : xs.length = ys.length) : Walk (ItzN K a b) xs.length (fun H => SqT K H a xs ∧ SqL K H b ys) (YPair (fun i => xs[i]?) (fun i => ys[i]?)) where
  goes := fun i _ hi q => ⟨xs, ys, xs[i], ys[i]'(hl ▸ hi), q.1, q.2, List.getElem?_eq_getElem hi, List.getElem?_eq_getElem (hl ▸ hi)⟩
  stops := fun _ q => ⟨xs, ys, q.1, q.2, Nat.le_refl _, Nat.le_of_eq hl, .inl rfl⟩
  yields := fun i H v H' _ q ⟨T, x, y, h1, h2, h3, h4, h5⟩ => ⟨T, x, y, h1, h2, h3, h4 xs q.1, h5 ys q.2⟩
theorem PI.or {X : Cx} {tg e : Expr} {r r' : TI} (h : PI X tg e r) (h' : PI X tg e r') : PI X tg e (fun σ H R => r σ H R ∨ r' σ H R) := ⟨fun pins s σ H R I q => q.elim (h.run pins s σ H R I) (h'.run pins s σ H R I)⟩
def iZipQ (K : PySem.W.Frag) (ta : TA) : TI := fun σ H R => RZ.iZipA K ta σ H R ∨ iZipM K ta σ H R ∨ iZipN K ta σ H R
theorem pi_zipQ {X : Cx} {e e2 : Expr} {ta : TA} {p pos tpos : Pos} {elts : List Expr} {kk : Nat} (hg : Gl X "zip") (hm : X.mg "zip" = none) (ha : PA X [e, e2] ta)
    (hs : starEach [e, e2] X.env = (false, eval e X.env) :: starEach [e2] X.env := by rfl) (hpl : (backTo pos (starEach [e2] X.env)).any (·.1) = false := by rfl) :
    PI X (.Tuple elts kk tpos) (.Call (.Name "zip" p) [e, e2] [] pos) (iZipQ X.K ta) := PI.or (RZ.pi_zipA hg hm ha hs hpl) (PI.or (pi_zipM hg hm ha hs hpl) (pi_zipN hg hm ha hs hpl))
/-- rows of one length by pairs: each way of holding them -/
def ZipJ (K : PySem.W.Frag) (J : It) (n : Nat) (H0 : Hp) (fx fy : Nat → Option V) : Prop := ∃ G, Walk J n G (YPair fx fy) ∧ ∀ H, GX.NoTab H0 H → G H

/-! ### comprehensions by what they make: things -/
theorem lc_thgF (f : Nat → Option PyData) {J : It} {n : Nat} {G : Hp → Prop} {Y : Nat → Hp → V → Hp → Prop} (w : Walk J n G Y) {g : TG} {tt : TT} {te : TE} {vs : List Nat} {σ : L2.St} {H1 : Hp} {D : Addr} {Qd : Hp → Prop} (cs : List Addr) (nD : H1 D = none) (hz : n ≤ 1000) (hG : ∀ H, Same H1 H → G H)
    (turn : ∀ i x H H' (Kt : V → Hp → Prop) (Kn : Hp → Prop), i < n → Same H1 H → Y i H x H' → (∀ y d H4, f i = some d → Same H H4 → Thg (D :: cs) H4 y d → Kt y H4) → (∀ H4, f i = none → Same H H4 → Kn H4) → g x (wipe σ vs) H' fun σ2 H2 => wipe σ2 vs = wipe σ vs ∧ tt σ2 H2 fun b H3 => if b = true then te σ2 H3 Kt else Kn H3)
    (fin : ∀ H ws, Same H1 H → H D = some (.lst ws) → ThgL (D :: cs) H ws ((List.range n).filterMap f) → Qd H) : LcW J g tt te vs σ D Qd H1 := by
  refine lc_it w (fun j H => Same H1 H ∧ ∃ ws, H D = some (.lst ws) ∧ ThgL (D :: cs) H ws ((List.range j).filterMap f)) ⟨same_upd nD, [], upd_same, ThgL.nil⟩ (fun i H _ p => hG H p.1) (fun i x H H' hi hP hy => ?_) (fun H hP => let ⟨s, ws, e, h⟩ := hP; fin H ws s e h)
  obtain ⟨sm, ws, eD, hw⟩ := hP
  have es : (List.range (i + 1)).filterMap f = (List.range i).filterMap f ++ (f i).toList := by
    rw [List.range_succ, List.filterMap_append]
    cases h : f i with
    | none => simp [h]
    | some d => simp [h]
  have len : ((List.range i).filterMap f).length ≤ i := by
    have := List.length_filterMap_le f (List.range i)
    rwa [List.length_range] at this
  refine turn i x H H' _ _ hi sm hy (fun y d H4 e s4 hd => ?_) (fun H4 e s4 => ?_)
  · have eD4 := s4 _ _ eD
    refine ⟨ws, eD4, Nat.lt_of_lt_of_le (show ws.length < 1000 by rw [hw.1]; omega) (by decide), fun b o eb => ?_, ws ++ [y], upd_same, ?_⟩
    · rw [upd_ne (ne_of_none eb nD)]
      exact s4 _ _ (sm b o eb)
    · rw [es, e]
      exact ((hw.same s4).upd eD4 (by simp)).append (ThgL.one (hd.upd eD4 (by simp)))
  · refine ⟨sm.trans s4, ws, s4 _ _ eD, ?_⟩
    rw [es, e]
    show ThgL _ _ _ (_ ++ [])
    rw [List.append_nil]
    exact hw.same s4
theorem lc_thg (ds : List PyData) {J : It} {n : Nat} {G : Hp → Prop} {Y : Nat → Hp → V → Hp → Prop} (w : Walk J n G Y) {g : TG} {tt : TT} {te : TE} {vs : List Nat} {σ : L2.St} {H1 : Hp} {D : Addr} {Qd : Hp → Prop} (cs : List Addr) (nD : H1 D = none) (hn : ds.length = n) (hz : n ≤ 1000) (hG : ∀ H, Same H1 H → G H)
    (turn : ∀ i x d H H' (Kt : V → Hp → Prop) (Kn : Hp → Prop), ds[i]? = some d → Same H1 H → Y i H x H' → (∀ y H4, Same H H4 → Thg (D :: cs) H4 y d → Kt y H4) → g x (wipe σ vs) H' fun σ2 H2 => wipe σ2 vs = wipe σ vs ∧ tt σ2 H2 fun b H3 => if b = true then te σ2 H3 Kt else Kn H3)
    (fin : ∀ H ws, Same H1 H → H D = some (.lst ws) → ThgL (D :: cs) H ws ds → Qd H) : LcW J g tt te vs σ D Qd H1 := by
  refine lc_thgF (fun i => ds[i]?) w cs nD hz hG (fun i x H H' Kt Kn hi sm hy kt kn => ?_) (fun H ws s e h => fin H ws s e ?_)
  · have ed : ds[i]? = some ds[i] := List.getElem?_eq_getElem (by omega)
    exact turn i x _ H H' Kt Kn ed sm hy fun y H4 s4 h4 => kt y _ H4 ed s4 h4
  · have : (List.range n).filterMap (fun i => ds[i]?) = ds := by
      rw [← hn]
      clear hn turn fin h w
      induction ds with
      | nil => rfl
      | cons d r ih =>
        rw [List.length_cons, List.range_succ_eq_map, List.filterMap_cons]
        show d :: List.filterMap _ _ = _
        rw [List.filterMap_map]
        exact congrArg (d :: ·) ih
    rwa [this] at h
/-- a test's tin, a fault's minutes hold no list -/
theorem Thg.span {cs cs' : List Addr} {H : Hp} {v : V} {o : Option (Int × Int)} (h : Thg cs H v (spanD o)) : Thg cs' H v (spanD o) := by
  cases o with
  | none => cases h.inv_non; exact .non
  | some p =>
    obtain ⟨a, rfl, e⟩ := h.pair
    exact thg_pair e
theorem Thg.tst {cs : List Addr} {H : Hp} {v : V} {t : Tst} (h : Thg cs H v (tstD t)) : ∃ a, v = .ref a ∧ H a = some (.tup [.str t.mark, .int t.tin, .str (wordD t.bad)]) := by
  obtain ⟨a, xs, rfl, e, h1⟩ := h.tuple
  obtain ⟨x, ys, rfl, h2, h3⟩ := h1.inv
  obtain ⟨y, zs, rfl, h4, h5⟩ := h3.inv
  obtain ⟨z, ws, rfl, h6, h7⟩ := h5.inv
  rw [h7.inv0, h2.inv_str, h4.inv_int, h6.inv_str] at e
  exact ⟨a, rfl, e⟩
/-- what a dict by marks holds of the first so many batches -/
def DicB (cs : List Addr) (H : Hp) (kvs : List (Key × V)) (bs : List Bat3) (n : Nat) : Prop := ∀ i B, i < n → bs[i]? = some B → ∃ v d, valV kvs (.inr B.mark) = some v ∧ BatR B d ∧ Thg cs H v d
theorem DicB.put {cs : List Addr} {H : Hp} {kvs : List (Key × V)} {bs : List Bat3} {n : Nat} {B : Bat3} {v : V} {d : PyData} (h : DicB cs H kvs bs n) (nd : (bs.map Bat3.mark).Nodup) (e : bs[n]? = some B) (r : BatR B d) (hv : Thg cs H v d) : DicB cs H (putK kvs (.inr B.mark) v) bs (n + 1) := fun i B' hi e' => by
  rw [valV_put]
  by_cases ei : i = n
  · subst ei
    rw [e] at e'
    cases e'
    rw [if_pos rfl]
    exact ⟨v, d, rfl, r, hv⟩
  · have ne : B'.mark ≠ B.mark := fun z => by
      obtain ⟨hi', ei'⟩ := List.getElem?_eq_some_iff.mp e'
      obtain ⟨hj', ej'⟩ := List.getElem?_eq_some_iff.mp e
      exact ei ((List.getElem_inj (h₀ := by rw [List.length_map]; exact hi') (h₁ := by rw [List.length_map]; exact hj') nd).mp (by rw [List.getElem_map, List.getElem_map, ei', ej', z]))
    rw [if_neg (fun z => ne (Sum.inr.inj z))]
    exact h i B' (by omega) e'
theorem DicB.map {cs : List Addr} {H H' : Hp} {kvs : List (Key × V)} {bs : List Bat3} {n : Nat} (h : DicB cs H kvs bs n) (k : ∀ v d, Thg cs H v d → Thg cs H' v d) : DicB cs H' kvs bs n := fun i B hi e => let ⟨v, d, a, b, c⟩ := h i B hi e; ⟨v, d, a, b, k _ _ c⟩
theorem putK_len (kvs : List (Key × V)) (k : Key) (v : V) : (putK kvs k v).length ≤ kvs.length + 1 := by
  unfold putK
  split
  · rw [List.length_map]; exact Nat.le_succ _
  · rw [List.length_append]; exact Nat.le_refl _
theorem Thg.updD {cs : List Addr} {H : Hp} {v : V} {d : PyData} {l : Addr} {ks : List (Key × V)} {o : HO} (h : Thg cs H v d) (e : H l = some (.dK ks)) : Thg cs (L2.upd H l o) v d :=
  h.ext (fun a ys n ea => (upd_ne (ne_of ea e (fun z => nomatch z))).trans ea) fun a ys ea => (upd_ne (ne_of ea e (fun z => nomatch z))).trans ea
/-- what the two sides have of tests and batches -/
structure Given (cs : List Addr) (H : Hp) (vb vt : V) (bs : List Bat3) (ts : List Tst) : Prop where
  bt : ∃ a xs ds, vb = .ref a ∧ SqH H a xs ∧ ThgL cs H xs ds ∧ BatsR bs ds
  tt : ∃ a xs, vt = .ref a ∧ SqH H a xs ∧ ThgL cs H xs (ts.map tstD)
theorem Given.noTab {cs : List Addr} {H H' : Hp} {vb vt : V} {bs : List Bat3} {ts : List Tst} (h : Given cs H vb vt bs ts) (n : GX.NoTab H H') : Given cs H' vb vt bs ts := by
  obtain ⟨⟨a, xs, ds, e, h1, h2, h3⟩, b, ys, e', h4, h5⟩ := h
  exact ⟨⟨a, xs, ds, e, h1.imp (fun e => n.lst e) (fun e => n.tup e), h2.noTab n, h3⟩, b, ys, e', h4.imp (fun e => n.lst e) (fun e => n.tup e), h5.noTab n⟩
theorem Given.same {cs : List Addr} {H H' : Hp} {vb vt : V} {bs : List Bat3} {ts : List Tst} (h : Given cs H vb vt bs ts) (s : Same H H') : Given cs H' vb vt bs ts := h.noTab (.of s)
def spTested (K : PySem.W.Frag) : Sp := fun vs H Q _ => ∃ (vb vt : V) (p : Str) (bs : List Bat3) (ts : List Tst) (cs : List Addr), vs = [vb, vt, .str p] ∧ Given cs H vb vt bs ts ∧ CaseOk bs ts ∧
  ∀ l us H', H l = none → Same H H' → H' l = some (.lst us) → ThgL [] H' us (ts.map fun t => spanD (winT bs p t)) → Q (.ref l) H'
abbrev sTested : Stmt := topS 17
theorem scTested : FnScope ["batches", "tests", "place", "marked", "batch", "mark", "tin", "word"] ["batches", "tests", "place"] (defScope sTested) := ⟨rfl, rfl, rfl, by decide +kernel, rfl, by decide +kernel, by decide +kernel⟩
section
variable {K : PySem.W.Frag} {mg : Str → Option Value} {P : Program} {w : World} {base : Heap}
theorem ok_Tested {f : Addr} {fd : FuncData} (F : Fun K "windows_tested" "windows_tested" sTested f fd) (C_window : Cal P w K mg base 2 "window" ["batch", "place", "tin"] (spWin K)) : FnOk P w K mg base CX0 3 f fd ["batches", "tests", "place"] (spTested K) := by
  refine F.ok scTested (fun vs H Q E h => ?_) (fun cdv A outer s H vs Q E hr h => ?_)
  · obtain ⟨vb, vt, p, bs, ts, cs, rfl, _⟩ := h
    rfl
  · obtain ⟨vb, vt, p, bs, ts, cs, rfl, hG, hC, q⟩ := h
    refine ⟨_, pss_cons (ps_set (i := 3) scTested.nd rfl (.inr rfl) (pe_dc (own := [("batch", 4)]) (g := gName 4) (tt := tYes) (tk := tOp (rIxT K) (tVar 4) (tC (.int 0))) (tv := tVar 4) rfl scTested.nd (pi_seq (pv 0)) (blkOk_by (own := [("batch", 4)]) (N := ["batches", "tests", "place", "marked", "batch", "mark", "tin", "word"]) (sc := defScope sTested) (by decide +kernel)) (fun _ _ _ _ _ => pg_name (i := 4) scTested.nd rfl (.inl rfl)) (fun _ _ _ _ _ => pts_nil) (fun _ _ _ _ _ => pe_ix ix_tup (pv 4) pe_int (fun _ _ => rfl)) (fun _ _ _ _ _ => pv 4)))
      (pss_one (ps_ret (pe_lc (own := [("mark", 5), ("tin", 6), ("word", 7)]) (g := (gTup K 3 (gCons (gName 5) (gCons (gName 6) (gCons (gName 7) gNil))))) (tt := tYes) (te := (tCall (spWin K) [] E0 (tCons (tDGet (tVar 3) (tVar 5)) (tCons (tVar 2) (tCons (tVar 6) tNil))))) rfl scTested.nd (pi_seq (pv 1)) (blkOk_by (own := [("mark", 5), ("tin", 6), ("word", 7)]) (N := ["batches", "tests", "place", "marked", "batch", "mark", "tin", "word"]) (sc := defScope sTested) (by decide +kernel)) (fun _ _ _ _ _ => (pg_tup rfl (pgs_cons (pg_name (i := 5) scTested.nd rfl (.inl rfl)) (pgs_cons (pg_name (i := 6) scTested.nd rfl (.inl rfl)) (pgs_cons (pg_name (i := 7) scTested.nd rfl (.inl rfl)) pgs_nil))))) (fun _ _ _ _ _ => pts_nil) (fun _ _ _ _ _ => (pe_own C_window hr (by rfl) (pa_cons (pe_dget (hu_of hr) (pv 3) (pv 5) (fun _ _ => rfl)) (pa_cons (pv 2) (pa_cons (pv 6) pa_nil)))))))), ?_⟩
    obtain ⟨⟨a, xs, ds, rfl, ha, hx, hR⟩, b, ys, rfl, hb, hy⟩ := hG
    have hl : xs.length = bs.length := by rw [hx.1, hR.1]
    have h100 := hC.bl
    refine ⟨_, rfl, a, rfl, iseq_W ha (fun D i H' => ∃ kvs, H' D = some (.dK kvs) ∧ kvs.length ≤ i ∧ DicB cs H' kvs bs i ∧ Same H H') (fun D nD => ⟨[], upd_same, Nat.le_refl _, (fun i B z => absurd z (Nat.not_lt_zero _)), same_upd nD⟩) (fun D i H' nD ⟨kvs, eD, _, _, sm⟩ o e => sm _ _ e) (fun D i x H1 nD hxi ⟨kvs, eD, hkl, hd, sm⟩ => ?_) (fun D H1 nD ⟨kvs, eD, hkl, hd, sm⟩ => ?_)⟩
    · obtain ⟨B, d, eB, hB, hv⟩ := hx.bat hR hxi
      have hv1 := hv.same sm
      obtain ⟨c, l, us, rfl, ec, _⟩ := hv1.bat hB
      have hi : i < bs.length := (List.getElem?_eq_some_iff.mp eB).1
      refine ⟨rfl, _, rfl, c, _, 0, _, rfl, rfl, .inl (.inl ec), atI_nat (j := 0) rfl, _, rfl, kvs, .inr B.mark, rfl, eD, small1000 (by omega), _, upd_same, ?_, ?_, fun b' o e => ?_⟩
      · have := putK_len kvs (.inr B.mark) (.ref c)
        omega
      · exact (hd.put hC.nd eB hB hv1).map fun v d h => h.updD eD
      · rw [upd_ne (ne_of_none e nD)]
        exact sm _ _ e
    · rw [hl] at hd hkl
      have hb1 : SqH H1 b ys := hb.imp (fun e => sm _ _ e) (fun e => sm _ _ e)
      have hyl : ys.length = ts.length := by rw [hy.1, List.length_map]
      have htl := hC.tl
      refine ⟨_, rfl, b, rfl, iseq_lc hb1 fun J G wk hG G1 nG1 => lc_thg (ts.map fun t => spanD (winT bs p t)) wk [] nG1 (by rw [List.length_map, hyl]) (by omega) (fun H' s => hG H' (NoTab.same s)) (fun i x d H2 H2' Kt Kn ed s2 hyy k => ?_) (fun H2 ws s2 e2 h2 => ?_)⟩
      · obtain ⟨rfl, hxi⟩ := hyy
        rw [List.getElem?_map] at ed
        cases et : ts[i]? with
        | none => rw [et] at ed; cases ed
        | some t =>
          rw [et] at ed
          cases ed
          have S2 := sm.trans s2
          have hx2 := hy.2 i x (tstD t) hxi (by rw [List.getElem?_map, et]; rfl)
          obtain ⟨c, rfl, ec⟩ := (hx2.same S2).tst
          obtain ⟨B, hB, hm, ew, k0, k1⟩ := winT_of hC (List.mem_of_getElem? et) p
          obtain ⟨j, hj⟩ := List.getElem?_of_mem hB
          obtain ⟨v, d, e1, r1, hv⟩ := hd j B (List.getElem?_eq_some_iff.mp hj).1 hj
          refine ⟨c, _, rfl, .inl (.inl ec), rfl, _, _, rfl, _, _, rfl, _, _, rfl, rfl, rfl, ?_⟩
          refine ⟨_, rfl, _, rfl, D, v, rfl, ?_, _, rfl, _, rfl, v, p, t.tin, B, d, cs, rfl, r1, hv.same s2, hC.bat B hB, k0, k1, fun y H4 s4 h4 => k y H4 s4 (by show Thg _ _ _ (spanD (winT bs p t)); rw [ew]; exact h4.span)⟩
          have := DGet.k (k := Sum.inr t.mark) (s2 _ _ eD)
          rw [← hm, e1] at this
          rw [← hm]
          exact this
      · exact q G1 ws H2 (sm.free nG1) (sm.trans s2) e2 (h2.less (by simp))
end

/-! ### gaps -/
def spFree (K : PySem.W.Frag) : Sp := fun vs H Q _ => ∃ (a : Addr) (us : List V) (ps : List (Int × Int)), vs = [.ref a] ∧ H a = some (.lst us) ∧ Prs H us ps ∧ ps.length ≤ 900 ∧
  ∀ l ws H', H l = none → Same H H' → H' l = some (.lst ws) → ThgL [] H' ws ((gapsO 0 (setL ps)).map gapD) → (gapsO 0 (setL ps)).length ≤ 901 → Q (.ref l) H'
abbrev sFree : Stmt := topS 18
theorem scFree : FnScope ["windows", "rows", "start", "first", "last"] ["windows"] (defScope sFree) := ⟨rfl, rfl, rfl, by decide +kernel, rfl, by decide +kernel, by decide +kernel⟩
section
variable {K : PySem.W.Frag} {mg : Str → Option Value} {P : Program} {w : World} {base : Heap}
theorem ok_Free {f : Addr} {fd : FuncData} (F : Fun K "free_rows" "free_rows" sFree f fd) (C_set_of : Cal P w K mg base 1 "set_of" ["pairs"] (spSetOf K)) : FnOk P w K mg base CX0 2 f fd ["windows"] (spFree K) := by
  refine F.ok scFree (fun vs H Q E h => ?_) (fun cdv A outer s H vs Q E hr h => ?_)
  · obtain ⟨a, us, ps, rfl, _⟩ := h
    rfl
  · obtain ⟨a, us, ps, rfl, ha, hp, hz, q⟩ := h
    refine ⟨_, pss_cons (ps_set (i := 1) scFree.nd rfl (.inl rfl) (pe_lst pa_nil))
      (pss_cons (ps_set (i := 2) scFree.nd rfl (.inl rfl) pe_int)
      (pss_cons (ps_for PassesOwn.never rfl (pi_list (pe_own C_set_of hr (by rfl) (pa_cons (pv 0) pa_nil))) (pg_tup rfl (pgs_cons (pg_name (i := 3) scFree.nd rfl (.inl rfl)) (pgs_cons (pg_name (i := 4) scFree.nd rfl (.inl rfl)) pgs_nil)))
        (pss_cons (ps_if (pt_cmpR op_lt (pv 2) (pv 3) (nomark _)) (pss_one (ps_expr (pe_bm PySem.F.plainAttrs_list PySem.F.slot_list_append PySem.F.type_list_append mt_append (pv 1) (pa_cons (pe_tup (pa_cons (pv 2) (pa_cons (pe_op op_sub (pv 3) pe_int) pa_nil))) pa_nil))))
          pss_nil)
        (pss_one (ps_set (i := 2) scFree.nd rfl (.inl rfl) (pe_op op_add (pv 4) pe_int)))))
      (pss_cons (ps_expr (pe_bm PySem.F.plainAttrs_list PySem.F.slot_list_append PySem.F.type_list_append mt_append (pv 1) (pa_cons (pe_tup (pa_cons (pv 2) (pa_cons pe_non pa_nil))) pa_nil)))
      (pss_one (ps_ret (pv 1)))))), ?_⟩
    refine ⟨Nat.zero_le _, fun p np => ?_⟩
    have sp := same_upd (o := .lst []) np
    refine ⟨_, rfl, a, us, ps, rfl, Sq.list (sp _ _ ha), hp.same sp, hz, fun l ls rs H1 nl el hrs hS s1 => ⟨l, rfl, ⟨_, SqL.of el⟩, ?_⟩⟩
    have ers : rs = setL ps := hS.told.canon
    have hrl := hS.len
    have epH := s1 _ _ (upd_same (H := H) (a := p) (o := .lst []))
    have nlp : l ≠ p := fun z => by rw [z, upd_same] at nl; cases nl
    have S1 := sp.trans s1
    refine for_list (xs := ls) (fun i σ Hx => ∃ (ws : List V) (y3 y4 : Option V), σ = [some (.ref a), some (.ref p), some (.int (endI 0 (rs.take i))), y3, y4] ∧ Hx p = some (.lst ws) ∧ ThgL [p] Hx ws ((gapsI 0 (rs.take i)).map gapD) ∧ ∀ b o, b ≠ p → H1 b = some o → Hx b = some o) ⟨[], _, _, rfl, epH, ThgL.nil, fun _ _ _ e => e⟩ (fun i σ Hx _ hP => ?_) (fun i x σ Hx hx hP => ?_) (fun σ Hx hP => ?_)
    · obtain ⟨ws, y3, y4, rfl, ep, hw, k⟩ := hP
      exact SqL.of (k _ _ nlp el)
    · obtain ⟨ws, y3, y4, rfl, ep, hw, k⟩ := hP
      obtain ⟨r, T, er, rfl, eT⟩ := prs_at hrs hx
      have eTx := k T _ (ne_of eT epH (fun z => nomatch z)) eT
      have et : rs.take (i + 1) = rs.take i ++ [r] := by rw [List.take_add_one, er]; rfl
      obtain ⟨g1, g2⟩ := gapsI_snoc 0 (rs.take i) r
      have hil : i < rs.length := (List.getElem?_eq_some_iff.mp er).1
      have hwl : ws.length ≤ i := by
        have := gapsI_len 0 (rs.take i)
        rw [List.length_take] at this
        rw [hw.1, List.length_map]
        omega
      refine ⟨T, _, rfl, .inl (.inl eTx), rfl, _, _, rfl, _, _, rfl, rfl, _, rfl, _, rfl, _, _, rfl, rfl, _, rfl, ite2 (fun c => ?_) (fun c => ?_)⟩
      · have c := of_decide_eq_true c
        rw [if_pos c] at g1
        refine ⟨_, rfl, .inl ⟨rfl, _, SqL.of ep⟩, _, rfl, _, rfl, _, _, rfl, rfl, (by show 2 ≤ sizeLine; decide), fun T2 n2 => ⟨p, _, _, rfl, rfl, same_upd n2 _ _ ep, small1000 (by omega), ?_⟩⟩
        have s2 := same_upd (o := .tup [.int (endI 0 (rs.take i)), .int (r.1 - 1)]) n2
        refine ⟨_, rfl, _, _, rfl, rfl, _, _, _, by rw [et, g2]; rfl, upd_same, ?_, fun b o nb e => ?_⟩
        · rw [et, g1, List.map_append]
          exact ((hw.same s2).upd (s2 _ _ ep) (by simp)).append (ThgL.one ((ThgL.tup (.cons (.int _) (.one (.int _))) upd_same : Thg [p] _ (.ref T2) (gapD (endI 0 (rs.take i), some (r.1 - 1)))).upd (s2 _ _ ep) (by simp)))
        · rw [upd_ne nb]
          exact s2 _ _ (k b o nb e)
      · rw [if_neg (fun z => c (decide_eq_true z))] at g1
        refine ⟨_, rfl, _, _, rfl, rfl, ws, _, _, by rw [et, g2]; rfl, ep, ?_, k⟩
        rw [et, g1, List.append_nil]
        exact hw
    · obtain ⟨ws, y3, y4, rfl, ep, hw, k⟩ := hP
      rw [hrs.1, List.take_length] at *
      have hwl : ws.length ≤ 900 := by
        have := gapsI_len 0 rs
        rw [hw.1, List.length_map]
        omega
      refine ⟨_, rfl, .inl ⟨rfl, _, SqL.of ep⟩, _, rfl, (by show 2 ≤ sizeLine; decide), fun T2 n2 => ⟨p, _, _, rfl, rfl, same_upd n2 _ _ ep, small1000 (by omega), ?_⟩⟩
      have s2 := same_upd (o := .tup [.int (endI 0 rs), .non]) n2
      have hw2 : ThgL [p] (upd (upd Hx T2 (.tup [.int (endI 0 rs), .non])) p (.lst (ws ++ [.ref T2]))) (ws ++ [.ref T2]) ((gapsO 0 rs).map gapD) := by
        rw [gapsO_eq, List.map_append]
        exact ((hw.same s2).upd (s2 _ _ ep) (by simp)).append (ThgL.one ((ThgL.tup (.cons (.int _) (.one .non)) upd_same : Thg [p] _ (.ref T2) (gapD (endI 0 rs, none))).upd (s2 _ _ ep) (by simp)))
      refine ⟨_, rfl, q p _ _ np (fun b o e => ?_) upd_same (by rw [← ers]; exact hw2.less (by simp)) ?_⟩
      · rw [upd_ne (ne_of_none e np)]
        exact s2 _ _ (k b o (ne_of_none e np) (S1 _ _ e))
      · rw [← ers, gapsO_eq, List.length_append]
        have := gapsI_len 0 rs
        show _ + 1 ≤ 901
        omega
end
def spFaultR (K : PySem.W.Frag) (Ms : GX.Mq) (Xs : List Addr) (Pf : Addr) : Sp := fun vs H Q _ => ∃ (a b : Addr) (us ws : List V) (ps gs : List (Int × Int)), vs = [.ref a, .ref b] ∧ H a = some (.lst us) ∧ Prs H us ps ∧ ps ≠ [] ∧ ps.length ≤ 900 ∧ H b = some (.lst ws) ∧ Prs H ws gs ∧ gs.length ≤ 900 ∧ GX.TQ Ms Xs H ∧ Pf ∈ Ms ∧
  ∀ l zs H', H l = none → GX.NoTab H H' → GX.TQ Ms Xs H' → H' l = some (.lst zs) → ThgL [] H' zs ((faultF ps gs).map row4D) → (faultF ps gs).length ≤ 901 → Q (.ref l) H'
abbrev sFaultR : Stmt := topS 19
theorem scFaultR : FnScope ["bad", "good", "first_end", "last_begin", "rows", "first", "last", "latest", "begin", "end"] ["bad", "good"] (defScope sFaultR) := ⟨rfl, rfl, rfl, by decide +kernel, rfl, by decide +kernel, by decide +kernel⟩
section
variable {K : PySem.W.Frag} {mg : Str → Option Value} {P : Program} {w : World} {base : Heap}
theorem ok_FaultR {Ms : GX.Mq} {Xs : List Addr} {f c Pf : Addr} {oc kV doc pm ct : Value} {od an : Option Addr} {osl : Array (Option Value)} (lk : K.lookup f = some ⟨oc, od, .func (PySem.W.fnOf "fault_rows" "fault_rows" (defArgs sFaultR) (defBody sFaultR) (defScope sFaultR) .none kV doc pm an (.ref c) ct), osl⟩) (hcd : PySem.W.codeIn K (.ref c) "fault_rows" = true) (TG : GxR.TabB base mg c Pf) (C_free_rows : Cal P w K mg base 2 "free_rows" ["windows"] (spFree K)) (m_min : mg "min" = none) (m_max : mg "max" = none) : FnOk P w K mg base CX0 5 f (PySem.W.fnOf "fault_rows" "fault_rows" (defArgs sFaultR) (defBody sFaultR) (defScope sFaultR) .none kV doc pm an (.ref c) ct) ["bad", "good"] (spFaultR K Ms Xs Pf) := by
  refine fn_of lk hcd scFaultR (fun vs H Q E h => ?_) (fun A outer s H vs Q E hr h => ?_)
  · obtain ⟨a, b, us, ws, ps, gs, rfl, _⟩ := h
    rfl
  · obtain ⟨a, b, us, ws, ps, gs, rfl, ha, hp, hne, hpz, hb, hg, hgz, hT, hM, q⟩ := h
    refine ⟨_, PSs.nox (pss_cons (ps_set (i := 2) scFaultR.nd rfl (.inl rfl) (GX.pe_minX (k := 1) (own := [("begin", 8), ("end", 9)]) (te := fun code1 => (tVar 9)) (g' := (gTup K 2 (gCons (gName 8) (gCons (gName 9) gNil)))) (tt := tYes) hr scFaultR.nd (by rfl) m_min TG.bm (pi_list (pv 0)) (GX.pc_own (Ms := Ms) (Xs := Xs) TG rfl) (GX.gok_by (own := [("begin", 8), ("end", 9)]) (N := ["bad", "good", "first_end", "last_begin", "rows", "first", "last", "latest", "begin", "end"]) (sc := defScope sFaultR) (by decide +kernel)) (fun _ _ _ _ _ r1 gd1 => (pg_tup rfl (pgs_cons (pg_name (i := 8) scFaultR.nd rfl (.inl rfl)) (pgs_cons (pg_name (i := 9) scFaultR.nd rfl (.inl rfl)) pgs_nil)))) (fun _ _ _ _ _ r1 gd1 => pts_nil) (fun _ _ _ code1 _ r1 gd1 => (pv 9))))
      (pss_cons (ps_set (i := 3) scFaultR.nd rfl (.inl rfl) (GX.pe_maxX (k := 1) (own := [("begin", 8), ("end", 9)]) (te := fun code1 => (tVar 8)) (g' := (gTup K 2 (gCons (gName 8) (gCons (gName 9) gNil)))) (tt := tYes) hr scFaultR.nd (by rfl) m_max TG.bm (pi_list (pv 0)) (GX.pc_own (Ms := Ms) (Xs := Xs) TG rfl) (GX.gok_by (own := [("begin", 8), ("end", 9)]) (N := ["bad", "good", "first_end", "last_begin", "rows", "first", "last", "latest", "begin", "end"]) (sc := defScope sFaultR) (by decide +kernel)) (fun _ _ _ _ _ r1 gd1 => (pg_tup rfl (pgs_cons (pg_name (i := 8) scFaultR.nd rfl (.inl rfl)) (pgs_cons (pg_name (i := 9) scFaultR.nd rfl (.inl rfl)) pgs_nil)))) (fun _ _ _ _ _ r1 gd1 => pts_nil) (fun _ _ _ code1 _ r1 gd1 => (pv 8))))
      (pss_cons (ps_set (i := 4) scFaultR.nd rfl (.inl rfl) (pe_lst pa_nil))
      (pss_cons (ps_for PassesOwn.never rfl (pi_list (pe_own C_free_rows (hr.mono (show 2 ≤ 4 by decide)) (by rfl) (pa_cons (pv 1) pa_nil))) (pg_tup rfl (pgs_cons (pg_name (i := 5) scFaultR.nd rfl (.inl rfl)) (pgs_cons (pg_name (i := 6) scFaultR.nd rfl (.inl rfl)) pgs_nil)))
        (pss_one (ps_if (PW.pt (pw_and (pt_cmpR op_le (pv 5) (pv 2) (nomark _)) (pw_and1 (PW.pt (pw_or (pt_cmpR op_isN (pv 6) pe_non (nomark _)) (pw_or1 (pt_cmpR op_le (pv 3) (pv 6) (nomark _)))))))) (pss_cons (ps_set (i := 7) scFaultR.nd rfl (.inl rfl) (pe_ifExp (pt_cmpR op_isN (pv 6) pe_non (nomark _)) (pv 2) (pe_callB (call_min2 rfl) (by rfl) m_min (by decide +kernel) (pa_cons (pv 2) (pa_cons (pv 6) pa_nil)))))
          (pss_one (ps_expr (pe_bm PySem.F.plainAttrs_list PySem.F.slot_list_append PySem.F.type_list_append mt_append (pv 4) (pa_cons (pe_tup (pa_cons (pv 5) (pa_cons (pv 6) (pa_cons (pv 7) (pa_cons (pe_callB (call_max2 rfl) (by rfl) m_max (by decide +kernel) (pa_cons (pv 3) (pa_cons (pv 5) pa_nil))) pa_nil))))) pa_nil)))))
          pss_nil)))
      (pss_one (ps_ret (pv 4))))))), ?_⟩
    have h0 : 0 < us.length := by rw [hp.1]; exact List.length_pos_iff.mpr hne
    have at1 : ∀ (i : Nat) r, ps[i]? = some r → ps.getD i (0, 0) = r := fun i r e => by rw [List.getD_eq_getElem?_getD, e]; rfl
    have mem : ∀ (i : Nat), i < us.length → ps.getD i (0, 0) ∈ ps := fun i hi => by
      have hi' : i < ps.length := by rw [← hp.1]; exact hi
      have e : ps[i]? = some ps[i] := List.getElem?_eq_getElem hi'
      rw [at1 i _ e]
      exact List.getElem_mem _
    have idx : ∀ r ∈ ps, ∃ i, i < us.length ∧ ps.getD i (0, 0) = r := fun r hr => by
      obtain ⟨i, hi⟩ := List.getElem?_of_mem hr
      exact ⟨i, by rw [hp.1]; exact (List.getElem?_eq_some_iff.mp hi).1, at1 i r hi⟩
    refine ⟨_, rfl, a, rfl, ⟨_, SqL.of ha⟩, hT, hM, fun H2 c2 P2 n2 t2 _ _ _ => GX.turns_min (walk_list (xs := us)) (fun i => (ps.getD i (0, 0)).2) h0 (fun H' => H' = H2) rfl (fun H' e => by subst e; exact SqL.of (n2.lst ha)) (fun i x H3 H3' Kt Kn hi e hy kt => ?_) (fun H3 m e hm1 hm2 => ?_)⟩
    · subst e
      obtain ⟨rfl, hx⟩ := hy
      obtain ⟨r, T, er, rfl, eT⟩ := prs_at hp hx
      refine ⟨T, _, rfl, .inl (.inl (n2.tup eT)), rfl, _, _, rfl, _, _, rfl, rfl, rfl, _, rfl, ?_⟩
      have := kt _ rfl
      rw [at1 i r er] at this
      exact this
    subst e
    have efe : minL (ps.map (·.2)) = m := by
      obtain ⟨i, hi, e⟩ := hm1
      refine minL_eq (List.mem_map.mpr ⟨_, mem i hi, e⟩) fun x hx => ?_
      obtain ⟨r, hr, rfl⟩ := List.mem_map.mp hx
      obtain ⟨j, hj, rfl⟩ := idx r hr
      exact hm2 j hj
    clear hm1 hm2
    refine ⟨_, rfl, a, rfl, ⟨_, SqL.of (n2.lst ha)⟩, t2, hM, fun H4 c4 P4 n4 t4 _ _ _ => GX.turns_max (walk_list (xs := us)) (fun i => (ps.getD i (0, 0)).1) h0 (fun H' => H' = H4) rfl (fun H' e => by subst e; exact SqL.of (n4.lst (n2.lst ha))) (fun i x H5 H5' Kt Kn hi e hy kt => ?_) (fun H5 m2 e hm1 hm2 => ?_)⟩
    · subst e
      obtain ⟨rfl, hx⟩ := hy
      obtain ⟨r, T, er, rfl, eT⟩ := prs_at hp hx
      refine ⟨T, _, rfl, .inl (.inl (n4.tup (n2.tup eT))), rfl, _, _, rfl, _, _, rfl, rfl, rfl, _, rfl, ?_⟩
      have := kt _ rfl
      rw [at1 i r er] at this
      exact this
    subst e
    have elb : maxL (ps.map (·.1)) = m2 := by
      obtain ⟨i, hi, e⟩ := hm1
      refine maxL_eq (List.mem_map.mpr ⟨_, mem i hi, e⟩) fun x hx => ?_
      obtain ⟨r, hr, rfl⟩ := List.mem_map.mp hx
      obtain ⟨j, hj, rfl⟩ := idx r hr
      exact hm2 j hj
    clear hm1 hm2
    have n04 := n2.trans n4
    refine ⟨Nat.zero_le _, fun p np => ?_⟩
    have sp := same_upd (o := .lst []) np
    refine ⟨_, rfl, b, ws, gs, rfl, sp _ _ (n04.lst hb), ?_, hgz, fun l zs H6 nl s6 el hz hzl => ⟨l, rfl, ⟨_, SqL.of el⟩, ?_⟩⟩
    · exact ((prs_thg (cs := []) hg).noTab n04).prs.same sp
    have ep6 := s6 _ _ (upd_same (H := H5) (a := p) (o := .lst []))
    have nlp : l ≠ p := fun z => by rw [z, upd_same] at nl; cases nl
    have S6 := sp.trans s6
    have hgl : zs.length = (gapsO 0 (setL gs)).length := by rw [hz.1, List.length_map]
    refine for_list (xs := zs) (fun i σ Hx => ∃ (vs : List V) (y5 y6 y7 y8 y9 : Option V), σ = [some (.ref a), some (.ref b), some (.int m), some (.int m2), some (.ref p), y5, y6, y7, y8, y9] ∧ Hx p = some (.lst vs) ∧ ThgL [p] Hx vs ((((gapsO 0 (setL gs)).take i).filterMap (rowG m m2)).map row4D) ∧ ∀ b o, b ≠ p → H6 b = some o → Hx b = some o) ⟨[], _, _, _, _, _, rfl, ep6, ThgL.nil, fun _ _ _ e => e⟩ (fun i σ Hx _ hP => ?_) (fun i x σ Hx hx hP => ?_) (fun σ Hx hP => ?_)
    · obtain ⟨vs, y5, y6, y7, y8, y9, rfl, ep, hv, k⟩ := hP
      exact SqL.of (k _ _ nlp el)
    · obtain ⟨vs, y5, y6, y7, y8, y9, rfl, ep, hv, k⟩ := hP
      obtain ⟨g, eg, hgd⟩ := hz.atM hx
      obtain ⟨T, xs, rfl, eT, h1⟩ := hgd.tuple
      obtain ⟨x1, ys, rfl, h2, h3⟩ := h1.inv
      obtain ⟨x2, ys2, rfl, h4, h5⟩ := h3.inv
      rw [h5.inv0, h2.inv_int, h4.inv_opt] at eT
      have eTx := k T _ (ne_of eT ep6 (fun z => nomatch z)) eT
      have et : (gapsO 0 (setL gs)).take (i + 1) = (gapsO 0 (setL gs)).take i ++ [g] := by rw [List.take_add_one, eg]; rfl
      have hil : i < (gapsO 0 (setL gs)).length := (List.getElem?_eq_some_iff.mp eg).1
      have hvl : vs.length ≤ i := by
        have := List.length_filterMap_le (rowG m m2) ((gapsO 0 (setL gs)).take i)
        rw [List.length_take] at this
        rw [hv.1, List.length_map]
        omega
      have skip : rowG m m2 g = none → ∀ y7', ∃ (vs : List V) (z5 z6 z7 z8 z9 : Option V), [some (V.ref a), some (.ref b), some (.int m), some (.int m2), some (.ref p), some (.int g.1), some (optV g.2), y7', y8, y9] = [some (.ref a), some (.ref b), some (.int m), some (.int m2), some (.ref p), z5, z6, z7, z8, z9] ∧ Hx p = some (.lst vs) ∧ ThgL [p] Hx vs ((((gapsO 0 (setL gs)).take (i + 1)).filterMap (rowG m m2)).map row4D) ∧ ∀ b o, b ≠ p → H6 b = some o → Hx b = some o := fun e y7' => by
        refine ⟨vs, _, _, _, _, _, rfl, ep, ?_, k⟩
        rw [et, List.filterMap_append, List.filterMap_cons, e, List.filterMap_nil, List.append_nil]
        exact hv
      have keep : ∀ (la : Int) (T2 : Addr), rowG m m2 g = some (g.1, g.2, la, if g.1 > m2 then g.1 else m2) → Hx T2 = none → ∃ (l' : Addr) (xs' : List V) (y : V), V.ref p = .ref l' ∧ [V.ref T2] = [y] ∧ upd Hx T2 (.tup [.int g.1, optV g.2, .int la, .int (if g.1 > m2 then g.1 else m2)]) l' = some (.lst xs') ∧ xs'.length < sizeLine ∧ ∃ (vs : List V) (y5 y6 y7 y8' y9' : Option V), [some (V.ref a), some (.ref b), some (.int m), some (.int m2), some (.ref p), some (.int g.1), some (optV g.2), some (.int la), y8, y9] = [some (.ref a), some (.ref b), some (.int m), some (.int m2), some (.ref p), y5, y6, y7, y8', y9'] ∧ upd (upd Hx T2 (.tup [.int g.1, optV g.2, .int la, .int (if g.1 > m2 then g.1 else m2)])) l' (.lst (xs' ++ [y])) p = some (.lst vs) ∧ ThgL [p] (upd (upd Hx T2 (.tup [.int g.1, optV g.2, .int la, .int (if g.1 > m2 then g.1 else m2)])) l' (.lst (xs' ++ [y]))) vs ((((gapsO 0 (setL gs)).take (i + 1)).filterMap (rowG m m2)).map row4D) ∧ ∀ b o, b ≠ p → H6 b = some o → upd (upd Hx T2 (.tup [.int g.1, optV g.2, .int la, .int (if g.1 > m2 then g.1 else m2)])) l' (.lst (xs' ++ [y])) b = some o := fun la T2 e n2' => by
        have s2 := same_upd (o := .tup [.int g.1, optV g.2, .int la, .int (if g.1 > m2 then g.1 else m2)]) n2'
        refine ⟨p, vs, _, rfl, rfl, s2 _ _ ep, small1000 (by omega), vs ++ [.ref T2], _, _, _, _, _, rfl, upd_same, ?_, fun b o nb eb => ?_⟩
        · rw [et, List.filterMap_append, List.filterMap_cons, e, List.filterMap_nil, List.map_append]
          exact ((hv.same s2).upd (s2 _ _ ep) (by simp)).append (ThgL.one ((ThgL.tup (.cons (.int _) (.cons (thg_opt _) (.cons (.int _) (.one (.int _))))) upd_same : Thg [p] _ (.ref T2) (row4D (g.1, g.2, la, if g.1 > m2 then g.1 else m2))).upd (s2 _ _ ep) (by simp)))
        · rw [upd_ne nb]
          exact s2 _ _ (k b o nb eb)
      refine ⟨T, _, rfl, .inl (.inl eTx), rfl, _, _, rfl, _, _, rfl, rfl, _, rfl, _, rfl, _, _, rfl, rfl, _, rfl, ite2 (fun c => ?_) (fun c => ?_)⟩
      · have c := of_decide_eq_true c
        cases e2 : g.2 with
        | none =>
          rw [e2] at keep
          refine ⟨_, rfl, rfl, _, rfl, iteT ⟨_, rfl, rfl, _, rfl, iteT ⟨_, rfl, ?_⟩⟩⟩
          refine ⟨_, rfl, .inl ⟨rfl, _, SqL.of ep⟩, _, rfl, _, rfl, _, rfl, _, rfl, _, rfl, _, _, rfl, (by show 4 ≤ sizeLine; decide), fun T2 n2' => keep m T2 ?_ n2'⟩
          unfold rowG
          rw [e2]
          exact if_pos c
        | some l2 =>
          rw [e2] at skip keep
          refine ⟨_, rfl, rfl, _, rfl, iteF ⟨_, rfl, _, rfl, _, _, rfl, rfl, _, rfl, ite2 (fun c2 => ?_) (fun c2 => ?_)⟩⟩
          · have c2 := of_decide_eq_true c2
            refine ⟨_, rfl, rfl, _, rfl, iteF ⟨_, rfl, _, rfl, _, _, rfl, ?_⟩⟩
            refine ⟨_, rfl, .inl ⟨rfl, _, SqL.of ep⟩, _, rfl, _, rfl, _, rfl, _, rfl, _, rfl, _, _, rfl, (by show 4 ≤ sizeLine; decide), fun T2 n2' => keep _ T2 ?_ n2'⟩
            unfold rowG
            rw [e2]
            exact if_pos ⟨c, c2⟩
          · have c2 : ¬ m2 ≤ l2 := fun z => c2 (decide_eq_true z)
            refine skip ?_ _
            unfold rowG
            rw [e2]
            exact if_neg fun z => c2 z.2
      · have c : ¬ g.1 ≤ m := fun z => c (decide_eq_true z)
        refine iteF (skip ?_ _)
        unfold rowG
        cases e2 : g.2 with
        | none => exact if_neg c
        | some l2 => exact if_neg fun z => c z.1
    · obtain ⟨vs, y5, y6, y7, y8, y9, rfl, ep, hv, k⟩ := hP
      rw [hgl, List.take_length] at hv
      have ef : faultF ps gs = (gapsO 0 (setL gs)).filterMap (rowG m m2) := by unfold faultF; rw [efe, elb]
      have S : Same H5 Hx := fun b' o e => k b' o (ne_of_none e np) (S6 _ _ e)
      refine ⟨_, rfl, q p vs Hx (n04.free np) (n04.trans (NoTab.same S)) (t4.same S) ep (by rw [ef]; exact hv.less (by simp)) ?_⟩
      · rw [ef]
        exact Nat.le_trans (List.length_filterMap_le _ _) hzl
end

theorem walk_zipTn {K : PySem.W.Frag} {a b : Addr} {xs ys : List V} {n : Nat} (hn : n = min xs.length ys.length) : Walk (RZ.ItzT K a b) n (fun H => SqT K H a xs ∧ SqT K H b ys) (YPair (fun i => xs[i]?) (fun i => ys[i]?)) := by
  subst hn
  refine ⟨fun i _ hi q => ?_, fun _ q => ⟨xs, ys, q.1, q.2, by omega⟩, fun i H v H' _ q y => ?_⟩
  · have h1 : i < xs.length := by omega
    have h2 : i < ys.length := by omega
    exact ⟨xs, ys, xs[i], ys[i], q.1, q.2, by simp [h1], by simp [h2]⟩
  · obtain ⟨T, x, z, h1, h2, h3, h4, h5⟩ := y
    exact ⟨T, x, z, h1, h2, h3, h4 xs q.1, h5 ys q.2⟩
theorem zipq_keep {K : PySem.W.Frag} {H : Hp} {a b : Addr} {xs ys : List V} {σ : L2.St} {i j : Nat} {R : It → Hp → Prop} (ei : σ[i]? = some (some (.ref a))) (ej : σ[j]? = some (some (.ref b))) (ha : SqH H a xs) (hb : SqH H b ys) (hl : xs.length = ys.length)
    (r : ∀ J G, Walk J xs.length G (YPair (fun i => xs[i]?) (fun i => ys[i]?)) → (∀ H', (∀ o, H a = some o → H' a = some o) → (∀ o, H b = some o → H' b = some o) → G H') → R J H) : iZipQ K (tCons (tVar i) (tCons (tVar j) tNil)) σ H R := by
  rcases ha with e | e <;> rcases hb with e2 | e2
  · exact .inl ⟨_, ei, _, ej, a, b, xs, ys, rfl, .inl ⟨SqL.of e, SqL.of e2, r _ _ (walk_zip (by omega)) fun H' n m => ⟨SqL.of (n _ e), SqL.of (m _ e2)⟩⟩⟩
  · exact .inr (.inl ⟨_, ei, _, ej, a, b, xs, ys, rfl, .inr ⟨SqL.of e, .inl (.inl e2), r _ _ (walk_zipM hl) fun H' n m => ⟨SqL.of (n _ e), .inl (.inl (m _ e2))⟩⟩⟩)
  · exact .inr (.inr ⟨_, ei, _, ej, a, b, xs, ys, rfl, .inl (.inl e), SqL.of e2, r _ _ (walk_zipN hl) fun H' n m => ⟨.inl (.inl (n _ e)), SqL.of (m _ e2)⟩⟩)
  · exact .inl ⟨_, ei, _, ej, a, b, xs, ys, rfl, .inr ⟨.inl (.inl e), .inl (.inl e2), r _ _ (walk_zipTn (by omega)) fun H' n m => ⟨.inl (.inl (n _ e)), .inl (.inl (m _ e2))⟩⟩⟩

/-! ### rows of a place -/
theorem u65 {k : Nat} {A : Around} (r : Room k A) : A.units + 65 < cLine := by have := r.un; omega
theorem range_bind {α β : Type} (g : α → Option β) : ∀ ts : List α, (List.range ts.length).filterMap (fun i => (ts[i]?).bind g) = ts.filterMap g
  | [] => rfl
  | t :: r => by
    rw [List.length_cons, List.range_succ_eq_map, List.filterMap_cons, List.filterMap_map, List.filterMap_cons]
    have ih := range_bind g r
    have e : (List.range r.length).filterMap ((fun i => ((t :: r)[i]?).bind g) ∘ Nat.succ) = r.filterMap g := ih
    rw [e]
    rfl
theorem bads_eq (seen : Seen) : seen.filterMap (fun x => if x.2 = true then some (spanD x.1) else none) = (badsF seen).map spanD := by
  unfold badsF
  induction seen with
  | nil => rfl
  | cons x r ih =>
    rw [List.filterMap_cons, List.filter_cons]
    by_cases c : x.2 = true
    · rw [if_pos c, if_pos c, List.map_cons, List.map_cons, ih]
    · rw [if_neg c, if_neg c, ih]
def goodD (x : Option (Int × Int) × Bool) : Option PyData := match x with
  | (some r, false) => some (pairD r)
  | _ => none
theorem goods_eq (seen : Seen) : seen.filterMap goodD = (goodsF seen).map pairD := by
  unfold goodsF
  induction seen with
  | nil => rfl
  | cons x r ih =>
    obtain ⟨o, b⟩ := x
    rw [List.filterMap_cons, List.filter_cons]
    cases b with
    | true => cases o <;> exact ih
    | false =>
      cases o with
      | none => exact ih
      | some q => exact congrArg (pairD q :: ·) ih
theorem lay_span (o : Option (Int × Int)) : PyData.canLay0 (spanD o) = true ∧ PyData.depth (spanD o) ≤ 1 := by
  cases o with
  | none => exact ⟨by simp [spanD, PyData.canLay0], by simp [spanD, PyData.depth]⟩
  | some p => exact ⟨by simp [spanD, pairD, PyData.canLay0, PyData.canLayAll0], by simp [spanD, pairD, PyData.depth, PyData.depthAll]⟩
theorem lay_spans : ∀ os : List (Option (Int × Int)), PyData.canLayAll0 (os.map spanD) = true ∧ PyData.depthAll (os.map spanD) ≤ 1
  | [] => ⟨by simp only [List.map_nil, PyData.canLayAll0], by simp only [List.map_nil, PyData.depthAll]; omega⟩
  | o :: r => by
    have h1 := lay_span o
    have h2 := lay_spans r
    refine ⟨by rw [List.map_cons, PyData.canLayAll0, h1.1, h2.1]; rfl, ?_⟩
    rw [List.map_cons, PyData.depthAll]
    omega
theorem shaped_spans (os : List (Option (Int × Int))) : SeqAt.shaped (PyData.list (os.map spanD)) = true := by
  unfold SeqAt.shaped
  have h := lay_spans os
  rw [PyData.canLay0, h.1, PyData.depth, Bool.true_and]
  exact decide_eq_true (by omega)
theorem none_in (os : List (Option (Int × Int))) : ((os.map spanD).any fun z => PyData.eqv z .none) = true ↔ none ∈ os := by
  rw [List.any_map, List.any_eq_true]
  constructor
  · rintro ⟨o, ho, e⟩
    cases o with
    | none => exact ho
    | some p => simp [spanD, pairD, PyData.eqv] at e
  · intro h
    exact ⟨none, h, by simp [spanD, PyData.eqv]⟩
theorem some_all : ∀ {os : List (Option (Int × Int))}, none ∉ os → os.map spanD = (os.filterMap id).map pairD
  | [], _ => rfl
  | none :: r, h => absurd (List.mem_cons_self ..) h
  | some p :: r, h => by
    rw [List.map_cons, some_all (fun z => h (List.mem_cons_of_mem _ z)), List.filterMap_cons]
    rfl
theorem wordD_eq (b : Bool) : (wordD b = "bad" ↔ b = true) ∧ (wordD b = "good" ↔ b = false) := by cases b <;> decide

/-! ### fewest by trying -/
/-- truths, one for each item -/
theorem lc_bs {K : PySem.W.Frag} {a : Addr} {xs : List V} {g : TG} {tt : TT} {te : TE} {vs : List Nat} {σ : L2.St} {H1 : Hp} {D : Addr} {Qd : Hp → Prop} (bs : List Bool) (nD : H1 D = none) (ea : H1 a = some (.lst xs)) (hl : bs.length = xs.length) (hz : xs.length ≤ 1000)
    (turn : ∀ (i : Nat) (x : V) (b : Bool) (H : Hp) (Kt : V → Hp → Prop) (Kn : Hp → Prop), xs[i]? = some x → bs[i]? = some b → Same H1 H → (∀ H4, Same H H4 → Kt (.bl b) H4) → g x (wipe σ vs) H fun σ2 H2 => wipe σ2 vs = wipe σ vs ∧ tt σ2 H2 fun b H3 => if b = true then te σ2 H3 Kt else Kn H3)
    (fin : ∀ H, Same H1 H → H D = some (.lst (bs.map V.bl)) → Qd H) : LcW (Itl K a) g tt te vs σ D Qd H1 := by
  refine lc_it walk_list (fun j H => Same H1 H ∧ H D = some (.lst ((bs.take j).map V.bl))) ⟨same_upd nD, upd_same⟩ (fun i H _ p => SqL.of (p.1 _ _ ea)) (fun i x H H' hi hP hy => ?_) (fun H hP => ?_)
  · obtain ⟨sm, eD⟩ := hP
    obtain ⟨rfl, hx⟩ := hy
    have hb : bs[i]? = some bs[i] := List.getElem?_eq_getElem (by omega)
    refine turn i x _ H' _ _ hx hb sm fun H4 s4 => ⟨_, s4 _ _ eD, Nat.lt_of_lt_of_le (show _ < 1000 by rw [List.length_map, List.length_take]; omega) (by decide), fun b o e => ?_, ?_⟩
    · rw [upd_ne (ne_of_none e nD)]
      exact s4 _ _ (sm b o e)
    · rw [upd_same, List.take_add_one, hb, List.map_append]
      rfl
  · obtain ⟨sm, eD⟩ := hP
    rw [← hl, List.take_length] at eD
    exact fin H sm eD

/-! ### tests drawn -/
def TstOk (bs : List Bat3) (t : Tst) : Prop := ∃ B ∈ bs, B.mark = t.mark ∧ 0 ≤ t.tin ∧ t.tin < B.tins
def spTests3 : Sp := fun vs H Q _ => ∃ (b a l : Addr) (t m : Int) (us : List V) (bs : List Bat3) (ps : List Str), vs = [.ref b, .ref a, .ref l, .int m] ∧ Bx b H t ∧ t + 100000 < 2 ^ 40 ∧ 0 < m ∧ m ≤ 50 ∧ H a = some (.lst us) ∧ a ≠ b ∧ ThgL [b] H us (bs.map batD) ∧ bs ≠ [] ∧ bs.length ≤ 100 ∧ (∀ B ∈ bs, BatOk B) ∧ H l = some (.lst (ps.map V.str)) ∧ l ≠ b ∧ ps ≠ [] ∧ ps.length ≤ 100 ∧
  ∀ F ys (ts : List Tst) t' H', H F = none → H' F = some (.lst ys) → ThgL [b] H' ys (ts.map tstD) → (∀ t ∈ ts, TstOk bs t) → (∃ t ∈ ts, t.bad = true) → (ts.length : Int) ≤ m → t ≤ t' → t' ≤ t + 1000 → Bx b H' t' → Kb b H H' → Q (.ref F) H'
abbrev sTests : Stmt := topS 35
theorem scTests : FnScope ["_law_box_here", "_law_batches_here", "_law_places_here", "_law_most", "_law_place", "_law_first", "_law_found", "_law_last", "_law_lies", "_law_turn", "_law_batch", "_law_tin", "_law_where", "_law_meets", "_law_at", "_law_test"] ["_law_box_here", "_law_batches_here", "_law_places_here", "_law_most"] (defScope sTests) := ⟨rfl, rfl, rfl, by decide +kernel, rfl, by decide +kernel, by decide +kernel⟩
section
variable {K : PySem.W.Frag} {mg : Str → Option Value} {P : Program} {w : World} {base : Heap}
theorem ok_Tests {f : Addr} {fd : FuncData} (F : Fun K "_law_tests" "_law_tests" sTests f fd) (C__law_take : Cal P w K mg base 1 "_law_take" ["_law_box_here", "_law_many"] spTakeB) (C__law_window : Cal P w K mg base 1 "_law_window" ["_law_batch", "_law_place", "_law_tin"] spLWin) (m_len : mg "len" = none) (m_range : mg "range" = none) (m_int : mg "int" = none) (m_all : mg "all" = none) : FnOk P w K mg base CX0 2 f fd ["_law_box_here", "_law_batches_here", "_law_places_here", "_law_most"] spTests3 := by
  refine F.ok scTests (fun vs H Q E h => ?_) (fun cdv A outer s H vs Q E hr h => ?_)
  · obtain ⟨b, a, l, t, m, us, bs, ps, rfl, _⟩ := h
    rfl
  · obtain ⟨b, a, l, t, m, us, bs, ps, rfl, hS, ht, hm0, hm1, ha, hab, hu, hne, hbl, hbo, hl, hlb, hpn, hpl, q⟩ := h
    refine ⟨_, pss_cons (ps_par3 rfl scTests.nd (i := 4) (j := 5) (l := 6) rfl rfl rfl (by decide) (by decide) (by decide) rfl rfl rfl (pa_cons (pe_ix ix_list (pv 2) (pe_own C__law_take hr (by rfl) (pa_cons (pv 0) (pa_cons (pe_callB call_len_seq (by rfl) m_len PySem.boot_len (pa_cons (pv 2) pa_nil)) pa_nil))) (fun _ _ => rfl)) (pa_cons (pe_own C__law_take hr (by rfl) (pa_cons (pv 0) (pa_cons pe_int pa_nil))) (pa_cons (pe_lst pa_nil) pa_nil))) (by rfl))
      (pss_cons (ps_par rfl scTests.nd (i := 7) (j := 8) rfl rfl (by decide) rfl rfl (pa_cons (pe_op op_add (pv 5) (pe_own C__law_take hr (by rfl) (pa_cons (pv 0) (pa_cons pe_int pa_nil)))) (pa_cons (pe_ix ix_list (pe_lst (pa_cons pe_int (pa_cons pe_int (pa_cons pe_int pa_nil)))) (pe_own C__law_take hr (by rfl) (pa_cons (pv 0) (pa_cons pe_int pa_nil))) (fun _ _ => rfl)) pa_nil)) (by rfl))
      (pss_cons (ps_for PassesOwn.never rfl (pi_range1 rfl m_range (pa_cons (pe_op op_add pe_int (pe_own C__law_take hr (by rfl) (pa_cons (pv 0) (pa_cons (pv 3) pa_nil)))) pa_nil)) (pg_name (i := 9) scTests.nd rfl (.inl rfl))
        (pss_cons (ps_set (i := 10) scTests.nd rfl (.inl rfl) (pe_ix ix_list (pv 1) (pe_own C__law_take hr (by rfl) (pa_cons (pv 0) (pa_cons (pe_callB call_len_seq (by rfl) m_len PySem.boot_len (pa_cons (pv 1) pa_nil)) pa_nil))) (fun _ _ => rfl)))
        (pss_cons (ps_set (i := 11) scTests.nd rfl (.inl rfl) (pe_own C__law_take hr (by rfl) (pa_cons (pv 0) (pa_cons (pe_ix ix_tup (pv 10) pe_int (fun _ _ => rfl)) pa_nil))))
        (pss_cons (ps_set (i := 12) scTests.nd rfl (.inl rfl) (pe_own C__law_window hr (by rfl) (pa_cons (pv 10) (pa_cons (pv 4) (pa_cons (pv 11) pa_nil)))))
        (Evl.pss_cut (ps_set (i := 13) scTests.nd rfl (.inl rfl) (pe_and (pe_cmpR op_notN (pv 12) pe_non (nomark _)) (pe_and (pe_cmpR op_le (pe_ix ix_tup (pv 12) pe_int (fun _ _ => rfl)) (pv 7) (nomark _)) (pe_one (pe_cmpR op_ge (pe_ix ix_tup (pv 12) pe_int (fun _ _ => rfl)) (pv 5) (nomark _))))))
        (Evl.pss_cut (ps_if (pt_cmpR op_eq (pe_own C__law_take hr (by rfl) (pa_cons (pv 0) (pa_cons (pv 8) pa_nil))) pe_int (nomark _)) (pss_one (ps_set (i := 13) scTests.nd rfl (.inl rfl) (pe_not (pv 13))))
          pss_nil)
        (pss_one (ps_expr (pe_bm PySem.F.plainAttrs_list PySem.F.slot_list_append PySem.F.type_list_append mt_append (pv 6) (pa_cons (pe_tup (pa_cons (pe_ix ix_tup (pv 10) pe_int (fun _ _ => rfl)) (pa_cons (pv 11) (pa_cons (pe_ix ix_list (pe_lst (pa_cons pe_str (pa_cons pe_str pa_nil))) (pe_callTy call_int1 (by rfl) m_int (by decide +kernel) (pa_cons (pv 13) pa_nil)) (fun _ _ => rfl)) pa_nil)))) pa_nil))))))))))
      (pss_cons (ps_set (i := 14) scTests.nd rfl (.inl rfl) (pe_own C__law_take hr (by rfl) (pa_cons (pv 0) (pa_cons (pe_callB call_len_seq (by rfl) m_len PySem.boot_len (pa_cons (pv 6) pa_nil)) pa_nil))))
      (Evl.pss_cut (ps_if (pt_val (pe_callB (cr_all rfl) (by rfl) m_all (by decide +kernel) (pa_cons (pe_lc (own := [("_law_test", 15)]) (g := (gName 15)) (tt := tYes) (te := (tOp (rEq) (tOp (rIxT K) (tVar 15) (tC (.int 2))) (tC (.str "good")))) rfl scTests.nd (pi_list (pv 6)) (blkOk_by (own := [("_law_test", 15)]) (N := ["_law_box_here", "_law_batches_here", "_law_places_here", "_law_most", "_law_place", "_law_first", "_law_found", "_law_last", "_law_lies", "_law_turn", "_law_batch", "_law_tin", "_law_where", "_law_meets", "_law_at", "_law_test"]) (sc := defScope sTests) (by decide +kernel)) (fun _ _ _ _ _ => (pg_name (i := 15) scTests.nd rfl (.inl rfl))) (fun _ _ _ _ _ => pts_nil) (fun _ _ _ _ _ => (pe_cmpR op_eq (pe_ix ix_tup (pv 15) pe_int (fun _ _ => rfl)) pe_str (nomark _)))) pa_nil))) (pss_one (ps_asg (pe_op op_catT (pe_slice sl_tup (pe_ix ix_list (pv 6) (pv 14) (fun _ _ => rfl)) po_none (po_some pe_int)) (pe_tup (pa_cons pe_str pa_nil))) (pg_sub (pv 6) (pv 14) set_list)))
        pss_nil)
      (pss_one (ps_ret (pv 6))))))), ?_⟩
    have e75 : Big = 10 ^ 75 := rfl
    have hpp : 0 < ps.length := List.length_pos_iff.mpr hpn
    have hbp : 0 < bs.length := List.length_pos_iff.mpr hne
    have hul : us.length = bs.length := by rw [hu.1, List.length_map]
    refine ⟨_, rfl, _, rfl, _, rfl, l, _, rfl, .inl (SqL.of hl), b, t, _, rfl, hS, by omega, by rw [List.length_map]; omega, by rw [List.length_map]; omega, fun r1 t1 H1 r10 r11 u0 u1 hS1 k1 => ?_⟩
    rw [List.length_map] at r11
    obtain ⟨j1, rfl⟩ := Int.eq_ofNat_of_zero_le r10
    have j1l : j1 < ps.length := by omega
    refine ⟨l, _, _, .str ps[j1], rfl, rfl, SqL.of (k1 _ _ hlb hl), atI_nat (by rw [List.getElem?_map, List.getElem?_eq_getElem j1l]; rfl), ?_⟩
    refine ⟨_, rfl, b, t1, 16, rfl, hS1, by omega, by decide, by decide, fun f1 t2 H2 f10 f11 u2 u3 hS2 k2 => ⟨Nat.zero_le _, fun F nF => ⟨_, _, _, rfl, ?_⟩⟩⟩
    have sF := same_upd (o := .lst []) nF
    have offF := hS2.off nF
    have hS2' := hS2.same sF
    refine ⟨_, rfl, _, rfl, b, t2, 6, rfl, hS2', by omega, by decide, by decide, fun g1 t3 H3 g10 g11 u4 u5 hS3 k3 => ⟨_, _, rfl, rfl, (by show 3 ≤ sizeLine; decide), fun Y nY => ?_⟩⟩
    have sY := same_upd (o := .lst [.int 5, .int 9, .int 99]) nY
    refine ⟨_, rfl, b, t3, 3, rfl, hS3.same sY, by omega, by decide, by decide, fun r4 t4 H4 r40 r41 u6 u7 hS4 k4 => ?_⟩
    obtain ⟨v, ev, hv⟩ := pick_at (xs := [V.int 5, V.int 9, V.int 99]) (n := 3) rfl r40 (by omega)
    obtain ⟨li, rfl, li0, li1⟩ : ∃ c1 : Int, v = .int c1 ∧ 5 ≤ c1 ∧ c1 ≤ 99 := by
      simp only [List.mem_cons, List.not_mem_nil, or_false] at hv
      rcases hv with rfl | rfl | rfl <;> exact ⟨_, rfl, by decide, by decide⟩
    refine ⟨Y, _, _, _, rfl, rfl, SqL.of (k4.new (hS3.off nY)), ev, _, _, rfl, ?_⟩
    have k04 : Kb b H H4 := ((((k1.trans k2).trans (Kb.same sF)).trans k3).trans (Kb.same sY)).trans k4
    have eF4 : H4 F = some (.lst []) := k4 _ _ offF (sY _ _ (k3 _ _ offF (upd_same (H := H2) (a := F) (o := .lst []))))
    have nFH : H F = none := (k1.trans k2).free hS2 nF
    refine ⟨_, rfl, _, rfl, b, t4, m, rfl, hS4, by omega, hm0, by omega, fun r5 t5 H5 r50 r51 u8 u9 hS5 k5 => ⟨_, _, rfl, rfl, 1 + r5, rfl, by omega, by omega, ?_⟩⟩
    have hu5 := hu.kb hS (k04.trans k5) (by simp)
    refine for_range (n := (1 + r5).toNat) (fun i σ Hx => ∃ (t' : Int) (ws : List V) (ts : List Tst) (y9 y10 y11 y12 y13 y14 y15 : Option V), σ = [some (.ref b), some (.ref a), some (.ref l), some (.int m), some (.str ps[j1]), some (.int f1), some (.ref F), some (.int (f1 + g1)), some (.int li), y9, y10, y11, y12, y13, y14, y15] ∧ Hx F = some (.lst ws) ∧ ThgL [F, b] Hx ws (ts.map tstD) ∧ ts.length = i ∧ (∀ t ∈ ts, TstOk bs t) ∧ t5 ≤ t' ∧ t' ≤ t5 + 3 * (i : Int) ∧ Bx b Hx t' ∧ Kb b H Hx)
      ⟨t5, [], [], _, _, _, _, _, _, _, rfl, k5 _ _ offF eF4, ThgL.nil, rfl, (fun _ z => nomatch z), by omega, by omega, hS5, k04.trans k5⟩ (fun i σ Hx hi hP => ?_) (fun σ Hx hP => ?_)
    · obtain ⟨t', ws, ts, y9, y10, y11, y12, y13, y14, y15, rfl, eF, hw, htl, hto, v0, v1, hSx, kx⟩ := hP
      have hi50 : (i : Int) < 51 := by omega
      have eax := kx _ _ hab ha
      refine ⟨_, rfl, _, rfl, _, rfl, a, us, rfl, .inl (SqL.of eax), b, t', _, rfl, hSx, by omega, by omega, by omega, fun r6 t6 H6 r60 r61 w0 w1 hS6 k6 => ?_⟩
      obtain ⟨j, rfl⟩ := Int.eq_ofNat_of_zero_le r60
      have jl : j < bs.length := by omega
      have k06 := kx.trans k6
      have hu6 := hu.kb hS k06 (by simp)
      obtain ⟨x, ex, hx⟩ := hu6.at' (List.getElem?_eq_getElem jl)
      have hBo := hbo _ (List.getElem_mem jl)
      have hB1 := hBo.2.1
      have hB2 := hBo.2.2.1
      refine ⟨a, us, _, x, rfl, rfl, SqL.of (k06 _ _ hab ha), atI_nat ex, ?_⟩
      obtain ⟨c, l', xs', rfl, ec, _⟩ := hx.batL
      refine ⟨_, rfl, _, rfl, c, _, 1, _, rfl, rfl, .inl (.inl ec), atI_nat (j := 1) rfl, b, t6, _, rfl, hS6, by omega, by omega, Big.lt (by omega) hB2, fun k t7 H7 k0 k1' w2 w3 hS7 k7 => ?_⟩
      have ec7 := k7 _ _ (ne_of ec hS6.at_.choose_spec.choose_spec.1 (fun z => nomatch z)) ec
      have hx7 := hx.kb hS6 k7 (by simp)
      refine ⟨_, rfl, _, rfl, _, rfl, .ref c, ps[j1], k, bs[j], [b], rfl, hx7, hBo, k0, k1', fun y H8 s8 hy => ?_⟩
      have hS8 := hS7.same s8
      -- whether it is met
      refine ⟨fun σ H' => ∃ bb : Bool, σ = [some (.ref b), some (.ref a), some (.ref l), some (.int m), some (.str ps[j1]), some (.int f1), some (.ref F), some (.int (f1 + g1)), some (.int li), some (.int (0 + (i : Int))), some (.ref c), some (.int k), some y, some (.bl bb), y14, y15] ∧ H' = H8, ?_, ?_⟩
      · revert hy
        generalize winF bs[j] ps[j1] k = o
        intro ho
        cases o with
        | none =>
          cases ho.inv_non
          exact ⟨_, rfl, rfl, _, rfl, iteF ⟨_, rfl, rfl⟩⟩
        | some r =>
          obtain ⟨T, rfl, eT⟩ := ho.pair
          refine ⟨_, rfl, rfl, _, rfl, iteT ⟨_, rfl, T, _, 0, _, rfl, rfl, .inl (.inl eT), atI_nat (j := 0) rfl, _, rfl, _, _, rfl, rfl, _, rfl, ite2 (fun _ => ?_) (fun _ => ?_)⟩⟩
          · exact ⟨_, rfl, T, _, 1, _, rfl, rfl, .inl (.inl eT), atI_nat (j := 1) rfl, _, rfl, _, _, rfl, rfl, _, rfl, rfl⟩
          · exact ⟨_, rfl, rfl⟩
      rintro σ9 H9 ⟨bb, rfl, rfl⟩
      refine ⟨fun σ H' => ∃ (bb : Bool) (t9 : Int), σ = [some (.ref b), some (.ref a), some (.ref l), some (.int m), some (.str ps[j1]), some (.int f1), some (.ref F), some (.int (f1 + g1)), some (.int li), some (.int (0 + (i : Int))), some (.ref c), some (.int k), some y, some (.bl bb), y14, y15] ∧ t7 ≤ t9 ∧ t9 ≤ t7 + 1 ∧ Bx b H' t9 ∧ Kb b H9 H', ?_, ?_⟩
      · refine ⟨_, rfl, _, rfl, b, t7, li, rfl, hS8, by omega, by omega, by omega, fun r9 t9 H10 r90 r91 w4 w5 hS9 k9 => ⟨rfl, _, rfl, ite2 (fun _ => ?_) (fun _ => ?_)⟩⟩
        · exact ⟨_, rfl, bb, rfl, !bb, t9, rfl, w4, w5, hS9, k9⟩
        · exact ⟨bb, t9, rfl, w4, w5, hS9, k9⟩
      rintro σ10 H10 ⟨bb, t9, rfl, w4, w5, hS9, k9⟩
      have k610 : Kb b H6 H10 := (k7.trans (Kb.same s8)).trans k9
      have kxx : Kb b Hx H10 := k6.trans k610
      have eF10 := kxx _ _ offF eF
      obtain ⟨n0, n1, eb6, _⟩ := hS6.at_
      have ec10 := k610 _ _ (ne_of ec eb6 (fun z => nomatch z)) ec
      have hwl : ws.length ≤ i := by rw [hw.1, List.length_map, htl]; exact Nat.le_refl _
      refine ⟨_, rfl, .inl ⟨rfl, _, SqL.of eF10⟩, _, rfl, c, _, 0, _, rfl, rfl, .inl (.inl ec10), atI_nat (j := 0) rfl, _, rfl, (by show 2 ≤ sizeLine; decide), fun G nG => ?_⟩
      have sG := same_upd (o := .lst [.str "good", .str "bad"]) nG
      refine ⟨_, rfl, .inr ⟨bb, rfl, G, _, _, .str (wordD bb), rfl, rfl, SqL.of upd_same, by cases bb <;> rfl, (by show 3 ≤ sizeLine; decide), fun T nT => ?_⟩⟩
      have sT := same_upd (o := .tup [.str bs[j].mark, .int k, .str (wordD bb)]) nT
      have eF11 := sT _ _ (sG _ _ eF10)
      have hw11 : ThgL [F, b] (upd (upd H10 G (.lst [.str "good", .str "bad"])) T (.tup [.str bs[j].mark, .int k, .str (wordD bb)])) ws (ts.map tstD) := ((hw.kb hSx kxx (by simp)).same sG).same sT
      have hT : Thg [F, b] (upd (upd H10 G (.lst [.str "good", .str "bad"])) T (.tup [.str bs[j].mark, .int k, .str (wordD bb)])) (.ref T) (tstD ⟨bs[j].mark, k, bb⟩) := ThgL.tup (.cons (.str _) (.cons (.int _) (.one (.str _)))) upd_same
      refine ⟨F, _, _, rfl, rfl, eF11, small1000 (by omega), t9, ws ++ [.ref T], ts ++ [⟨bs[j].mark, k, bb⟩], _, _, _, _, _, _, _, rfl, upd_same, ?_, by rw [List.length_append, htl]; rfl, fun t0 ht0 => ?_, by omega, by omega, ((hS9.same sG).same sT).upd offF, fun a' o na ea => ?_⟩
      · rw [List.map_append]
        exact (hw11.upd eF11 (by simp)).append (ThgL.one (hT.upd eF11 (by simp)))
      · rcases List.mem_append.mp ht0 with z | z
        · exact hto t0 z
        · rw [List.mem_singleton.mp z]
          exact ⟨bs[j], List.getElem_mem jl, rfl, k0, k1'⟩
      · rw [upd_ne (ne_of_none ea nFH)]
        exact sT _ _ (sG _ _ (kxx _ _ na (kx a' o na ea)))
    · obtain ⟨t', ws, ts, y9, y10, y11, y12, y13, y14, y15, rfl, eF, hw, htl, hto, v0, v1, hSx, kx⟩ := hP
      have hwl : ws.length = ts.length := by rw [hw.1, List.length_map]
      have hw' : ThgL [b] Hx ws (ts.map tstD) := hw.less (by simp)
      refine ⟨_, rfl, _, rfl, F, ws, rfl, .inl (SqL.of eF), b, t', _, rfl, hSx, by omega, by omega, by omega, fun r6 t6 H6 r60 r61 w0 w1 hS6 k6 => ?_⟩
      obtain ⟨j, rfl⟩ := Int.eq_ofNat_of_zero_le r60
      have jl : j < ts.length := by omega
      have eF6 := k6 _ _ offF eF
      have hw6 := hw'.kb hSx k6 (by simp)
      have k06 := kx.trans k6
      refine ⟨fun σ H' => ∃ (us' : List V) (ts' : List Tst) (y9 y10 y11 y12 y13 y14 y15 : Option V), σ = [some (.ref b), some (.ref a), some (.ref l), some (.int m), some (.str ps[j1]), some (.int f1), some (.ref F), some (.int (f1 + g1)), some (.int li), y9, y10, y11, y12, y13, y14, y15] ∧ H' F = some (.lst us') ∧ ThgL [b] H' us' (ts'.map tstD) ∧ ts'.length = ts.length ∧ (∀ t ∈ ts', TstOk bs t) ∧ (∃ t ∈ ts', t.bad = true) ∧ Bx b H' t6 ∧ Kb b H H', ?_, ?_⟩
      · refine ⟨_, rfl, F, rfl, ⟨_, SqL.of eF6⟩, fun D nD => lc_bs (bs := ts.map fun t => !t.bad) nD eF6 (by rw [List.length_map, hwl]) (by omega) (fun i x bb H7 Kt Kn hx hb s7 kk => ?_) (fun H7 s7 e7 => ?_)⟩
        · rw [List.getElem?_map] at hb
          cases et : ts[i]? with
          | none => rw [et] at hb; cases hb
          | some t0 =>
            rw [et] at hb
            cases hb
            obtain ⟨c, rfl, ec⟩ := ((hw6.2 i x _ hx (by rw [List.getElem?_map, et]; rfl)).same s7).tst
            refine ⟨rfl, _, rfl, c, _, 2, _, rfl, rfl, .inl (.inl ec), atI_nat (j := 2) rfl, rfl, ?_⟩
            have : decide (V.str (wordD t0.bad) = V.str "good") = !t0.bad := by cases t0.bad <;> decide
            rw [this]
            exact kk _ (Same.refl _)
        · refine ⟨D, _, rfl, SqL.of e7, _, rfl, ite2 (fun c => ?_) (fun c => ?_)⟩
          · have eF7 := s7 _ _ eF6
            have hw7 := hw6.same s7
            obtain ⟨x, ex, hx⟩ := hw7.at' (List.getElem?_eq_getElem jl)
            obtain ⟨c0, rfl, ec⟩ := hx.tst
            refine ⟨_, rfl, _, rfl, F, _, _, _, rfl, rfl, SqL.of eF7, atI_nat ex, 2, rfl, c0, _, rfl, .inl (.inl ec), (by show ¬ (HT.sIx 3 0 none = 0 ∧ HT.sIx 3 3 (some 2) = 3); decide), fun p np => ⟨(by show 1 ≤ sizeLine; decide), fun p2 np2 => ?_⟩⟩
            have sp := same_upd (o := .tup (cutV [V.str ts[j].mark, .int ts[j].tin, .str (wordD ts[j].bad)] none (some 2))) np
            have sp2 := same_upd (o := .tup [.str "bad"]) np2
            have ep1 := sp2 _ _ (upd_same (H := H7) (a := p) (o := .tup (cutV [V.str ts[j].mark, .int ts[j].tin, .str (wordD ts[j].bad)] none (some 2))))
            refine ⟨p, p2, _, _, rfl, rfl, .inl (.inl ep1), .inl (.inl upd_same), (by show [V.str ts[j].mark, .int ts[j].tin] ≠ []; simp), (by show 3 ≤ sizeLine; decide), (fun z => nomatch z), fun _ T nT => ?_⟩
            have sT := same_upd (o := .tup (cutV [V.str ts[j].mark, .int ts[j].tin, .str (wordD ts[j].bad)] none (some 2) ++ [.str "bad"])) nT
            have S := (sp.trans sp2).trans sT
            have eF8 := S _ _ eF7
            refine ⟨_, rfl, _, rfl, F, _, _, j, rfl, rfl, eF8, ixN_of (by omega), ?_⟩
            have hT : Thg [b] _ (.ref T) (tstD ⟨ts[j].mark, ts[j].tin, true⟩) := ThgL.tup (cs := [b]) (xs := [V.str ts[j].mark, .int ts[j].tin, .str "bad"]) (.cons (.str _) (.cons (.int _) (.one (.str _)))) (upd_same (H := upd (upd H7 p (.tup (cutV [V.str ts[j].mark, .int ts[j].tin, .str (wordD ts[j].bad)] none (some 2)))) p2 (.tup [.str "bad"])) (a := T) (o := .tup (cutV [V.str ts[j].mark, .int ts[j].tin, .str (wordD ts[j].bad)] none (some 2) ++ [.str "bad"])))
            refine ⟨ws.set j (.ref T), ts.set j ⟨ts[j].mark, ts[j].tin, true⟩, _, _, _, _, _, _, _, rfl, upd_same, ?_, List.length_set, fun t0 ht0 => ?_, ⟨⟨ts[j].mark, ts[j].tin, true⟩, List.mem_set jl _, rfl⟩, ((hS6.same s7).same S).upd offF, fun a' o na ea => ?_⟩
            · rw [List.map_set]
              have hw8 : ThgL [F, b] _ ws (ts.map tstD) := (((hw.kb hSx k6 (by simp)).same s7).same S)
              have hT8 : Thg [F, b] _ (.ref T) (tstD ⟨ts[j].mark, ts[j].tin, true⟩) := ThgL.tup (cs := [F, b]) (xs := [V.str ts[j].mark, .int ts[j].tin, .str "bad"]) (.cons (.str _) (.cons (.int _) (.one (.str _)))) (upd_same (H := upd (upd H7 p (.tup (cutV [V.str ts[j].mark, .int ts[j].tin, .str (wordD ts[j].bad)] none (some 2)))) p2 (.tup [.str "bad"])) (a := T) (o := .tup (cutV [V.str ts[j].mark, .int ts[j].tin, .str (wordD ts[j].bad)] none (some 2) ++ [.str "bad"])))
              exact ((hw8.set j hT8).upd eF8 (by simp)).less (by simp)
            · rcases List.mem_or_eq_of_mem_set ht0 with z | z
              · exact hto t0 z
              · rw [z]
                exact hto ts[j] (List.getElem_mem jl)
            · rw [upd_ne (ne_of_none ea nFH)]
              exact S _ _ (s7 _ _ (k06 a' o na ea))
          · refine ⟨ws, ts, _, _, _, _, _, _, _, rfl, s7 _ _ eF6, hw6.same s7, rfl, hto, ?_, hS6.same s7, k06.trans (Kb.same s7)⟩
            refine Classical.byContradiction fun z => c ?_
            rw [List.all_map]
            exact List.all_eq_true.mpr fun t0 h0 => by
              cases hb : t0.bad with
              | false => show (!t0.bad) = true; rw [hb]; rfl
              | true => exact absurd ⟨t0, h0, hb⟩ z
      rintro σ7 H7 ⟨us', ts', y9, y10, y11, y12, y13, y14, y15, rfl, eF7, hw7, hl7, hto7, hb7, hS7, k07⟩
      exact ⟨_, rfl, q F us' ts' t6 H7 nFH eF7 hw7 hto7 hb7 (by omega) (by omega) (by omega) hS7 k07⟩
end

/-! ### comprehensions over many things -/
theorem lc_thgFb (f : Nat → Option PyData) {J : It} {n : Nat} {G : Hp → Prop} {Y : Nat → Hp → V → Hp → Prop} (w : Walk J n G Y) {g : TG} {tt : TT} {te : TE} {vs : List Nat} {σ : L2.St} {H1 : Hp} {D : Addr} {Qd : Hp → Prop} (cs : List Addr) (nD : H1 D = none) (hz : n ≤ 100000) (hG : ∀ H, Same H1 H → G H)
    (turn : ∀ i x H H' (Kt : V → Hp → Prop) (Kn : Hp → Prop), i < n → Same H1 H → Y i H x H' → (∀ y d H4, f i = some d → Same H H4 → Thg (D :: cs) H4 y d → Kt y H4) → (∀ H4, f i = none → Same H H4 → Kn H4) → g x (wipe σ vs) H' fun σ2 H2 => wipe σ2 vs = wipe σ vs ∧ tt σ2 H2 fun b H3 => if b = true then te σ2 H3 Kt else Kn H3)
    (fin : ∀ H ws, Same H1 H → H D = some (.lst ws) → ThgL (D :: cs) H ws ((List.range n).filterMap f) → Qd H) : LcW J g tt te vs σ D Qd H1 := by
  refine lc_it w (fun j H => Same H1 H ∧ ∃ ws, H D = some (.lst ws) ∧ ThgL (D :: cs) H ws ((List.range j).filterMap f)) ⟨same_upd nD, [], upd_same, ThgL.nil⟩ (fun i H _ p => hG H p.1) (fun i x H H' hi hP hy => ?_) (fun H hP => let ⟨s, ws, e, h⟩ := hP; fin H ws s e h)
  obtain ⟨sm, ws, eD, hw⟩ := hP
  have es : (List.range (i + 1)).filterMap f = (List.range i).filterMap f ++ (f i).toList := by
    rw [List.range_succ, List.filterMap_append]
    cases h : f i with
    | none => simp [h]
    | some d => simp [h]
  have len : ((List.range i).filterMap f).length ≤ i := by
    have := List.length_filterMap_le f (List.range i)
    rwa [List.length_range] at this
  refine turn i x H H' _ _ hi sm hy (fun y d H4 e s4 hd => ?_) (fun H4 e s4 => ?_)
  · have eD4 := s4 _ _ eD
    refine ⟨ws, eD4, Nat.lt_of_lt_of_le (show ws.length < 100001 by rw [hw.1]; omega) (by decide), fun b o eb => ?_, ws ++ [y], upd_same, ?_⟩
    · rw [upd_ne (ne_of_none eb nD)]
      exact s4 _ _ (sm b o eb)
    · rw [es, e]
      exact ((hw.same s4).upd eD4 (by simp)).append (ThgL.one (hd.upd eD4 (by simp)))
  · refine ⟨sm.trans s4, ws, s4 _ _ eD, ?_⟩
    rw [es, e]
    show ThgL _ _ _ (_ ++ [])
    rw [List.append_nil]
    exact hw.same s4
theorem lc_thgb (ds : List PyData) {J : It} {n : Nat} {G : Hp → Prop} {Y : Nat → Hp → V → Hp → Prop} (w : Walk J n G Y) {g : TG} {tt : TT} {te : TE} {vs : List Nat} {σ : L2.St} {H1 : Hp} {D : Addr} {Qd : Hp → Prop} (cs : List Addr) (nD : H1 D = none) (hn : ds.length = n) (hz : n ≤ 100000) (hG : ∀ H, Same H1 H → G H)
    (turn : ∀ i x d H H' (Kt : V → Hp → Prop) (Kn : Hp → Prop), ds[i]? = some d → Same H1 H → Y i H x H' → (∀ y H4, Same H H4 → Thg (D :: cs) H4 y d → Kt y H4) → g x (wipe σ vs) H' fun σ2 H2 => wipe σ2 vs = wipe σ vs ∧ tt σ2 H2 fun b H3 => if b = true then te σ2 H3 Kt else Kn H3)
    (fin : ∀ H ws, Same H1 H → H D = some (.lst ws) → ThgL (D :: cs) H ws ds → Qd H) : LcW J g tt te vs σ D Qd H1 := by
  refine lc_thgFb (fun i => ds[i]?) w cs nD hz hG (fun i x H H' Kt Kn hi sm hy kt kn => ?_) (fun H ws s e h => fin H ws s e ?_)
  · have ed : ds[i]? = some ds[i] := List.getElem?_eq_getElem (by omega)
    exact turn i x _ H H' Kt Kn ed sm hy fun y H4 s4 h4 => kt y _ H4 ed s4 h4
  · have : (List.range n).filterMap (fun i => ds[i]?) = ds := by
      rw [← hn]
      clear hn turn fin h w
      induction ds with
      | nil => rfl
      | cons d r ih =>
        rw [List.length_cons, List.range_succ_eq_map, List.filterMap_cons]
        show d :: List.filterMap _ _ = _
        rw [List.filterMap_map]
        exact congrArg (d :: ·) ih
    rwa [this] at h

/-! ### comprehensions over many things -/
theorem lc_thgFd (f : Nat → Option PyData) {J : It} {n : Nat} {G : Hp → Prop} {Y : Nat → Hp → V → Hp → Prop} (w : Walk J n G Y) {g : TG} {tt : TT} {te : TE} {vs : List Nat} {σ : L2.St} {H1 : Hp} {D : Addr} {Qd : Hp → Prop} (cs : List Addr) (nD : H1 D = none) (hz : n ≤ 100000) (hG : ∀ H, Same H1 H → G H)
    (turn : ∀ i x H H' (Kt : V → Hp → Prop) (Kn : Hp → Prop), i < n → Same H1 H → (∃ ws, H D = some (.lst ws)) → Y i H x H' → (∀ y d H4, f i = some d → Same H H4 → Thg (D :: cs) H4 y d → Kt y H4) → (∀ H4, f i = none → Same H H4 → Kn H4) → g x (wipe σ vs) H' fun σ2 H2 => wipe σ2 vs = wipe σ vs ∧ tt σ2 H2 fun b H3 => if b = true then te σ2 H3 Kt else Kn H3)
    (fin : ∀ H ws, Same H1 H → H D = some (.lst ws) → ThgL (D :: cs) H ws ((List.range n).filterMap f) → Qd H) : LcW J g tt te vs σ D Qd H1 := by
  refine lc_it w (fun j H => Same H1 H ∧ ∃ ws, H D = some (.lst ws) ∧ ThgL (D :: cs) H ws ((List.range j).filterMap f)) ⟨same_upd nD, [], upd_same, ThgL.nil⟩ (fun i H _ p => hG H p.1) (fun i x H H' hi hP hy => ?_) (fun H hP => let ⟨s, ws, e, h⟩ := hP; fin H ws s e h)
  obtain ⟨sm, ws, eD, hw⟩ := hP
  have es : (List.range (i + 1)).filterMap f = (List.range i).filterMap f ++ (f i).toList := by
    rw [List.range_succ, List.filterMap_append]
    cases h : f i with
    | none => simp [h]
    | some d => simp [h]
  have len : ((List.range i).filterMap f).length ≤ i := by
    have := List.length_filterMap_le f (List.range i)
    rwa [List.length_range] at this
  refine turn i x H H' _ _ hi sm ⟨ws, eD⟩ hy (fun y d H4 e s4 hd => ?_) (fun H4 e s4 => ?_)
  · have eD4 := s4 _ _ eD
    refine ⟨ws, eD4, Nat.lt_of_lt_of_le (show ws.length < 100001 by rw [hw.1]; omega) (by decide), fun b o eb => ?_, ws ++ [y], upd_same, ?_⟩
    · rw [upd_ne (ne_of_none eb nD)]
      exact s4 _ _ (sm b o eb)
    · rw [es, e]
      exact ((hw.same s4).upd eD4 (by simp)).append (ThgL.one (hd.upd eD4 (by simp)))
  · refine ⟨sm.trans s4, ws, s4 _ _ eD, ?_⟩
    rw [es, e]
    show ThgL _ _ _ (_ ++ [])
    rw [List.append_nil]
    exact hw.same s4
theorem lc_thgd (ds : List PyData) {J : It} {n : Nat} {G : Hp → Prop} {Y : Nat → Hp → V → Hp → Prop} (w : Walk J n G Y) {g : TG} {tt : TT} {te : TE} {vs : List Nat} {σ : L2.St} {H1 : Hp} {D : Addr} {Qd : Hp → Prop} (cs : List Addr) (nD : H1 D = none) (hn : ds.length = n) (hz : n ≤ 100000) (hG : ∀ H, Same H1 H → G H)
    (turn : ∀ i x d H H' (Kt : V → Hp → Prop) (Kn : Hp → Prop), ds[i]? = some d → Same H1 H → (∃ ws, H D = some (.lst ws)) → Y i H x H' → (∀ y H4, Same H H4 → Thg (D :: cs) H4 y d → Kt y H4) → g x (wipe σ vs) H' fun σ2 H2 => wipe σ2 vs = wipe σ vs ∧ tt σ2 H2 fun b H3 => if b = true then te σ2 H3 Kt else Kn H3)
    (fin : ∀ H ws, Same H1 H → H D = some (.lst ws) → ThgL (D :: cs) H ws ds → Qd H) : LcW J g tt te vs σ D Qd H1 := by
  refine lc_thgFd (fun i => ds[i]?) w cs nD hz hG (fun i x H H' Kt Kn hi sm hd hy kt kn => ?_) (fun H ws s e h => fin H ws s e ?_)
  · have ed : ds[i]? = some ds[i] := List.getElem?_eq_getElem (by omega)
    exact turn i x _ H H' Kt Kn ed sm hd hy fun y H4 s4 h4 => kt y _ H4 ed s4 h4
  · have : (List.range n).filterMap (fun i => ds[i]?) = ds := by
      rw [← hn]
      clear hn turn fin h w
      induction ds with
      | nil => rfl
      | cons d r ih =>
        rw [List.length_cons, List.range_succ_eq_map, List.filterMap_cons]
        show d :: List.filterMap _ _ = _
        rw [List.filterMap_map]
        exact congrArg (d :: ·) ih
    rwa [this] at h

/-! ### faults gone through, minutes gone through -/
/-- a gap, the open one ended where the look ends -/
def clo (m : Int) (g : Int × Option Int) : Int × Int := (g.1, match g.2 with | some e => e | none => m)
/-- a run, opened where the look ends -/
def opn (m : Int) (g : Int × Int) : Int × Option Int := (g.1, if g.2 < m then some g.2 else none)
theorem gaps_in {m : Int} : ∀ {ps : List (Int × Int)} {lo s : Int}, Ris lo ps → s ≤ lo → s ≤ m → (∀ p ∈ ps, p.2 + 2 ≤ m) → Ris s ((gapsO s ps).map (clo m)) ∧ ∀ n, InS ((gapsO s ps).map (clo m)) n ↔ (s ≤ n ∧ n ≤ m) ∧ ¬ InS ps n
  | [], lo, s, _, _, hm, _ => ⟨⟨Int.le_refl _, hm, True.intro⟩, fun n => by
      show InS [(s, m)] n ↔ _
      rw [inS_cons]
      exact ⟨fun h => h.elim (fun z => ⟨z, inS_nil⟩) (fun z => absurd z inS_nil), fun h => .inl h.1⟩⟩
  | p :: r, lo, s, hR, hs, hm, he => by
    have hlo := hR.1
    have hp := hR.2.1
    have hpm := he p (List.mem_cons_self ..)
    obtain ⟨ih1, ih2⟩ := gaps_in hR.2.2 (show p.2 + 1 ≤ p.2 + 2 by omega) (by omega) fun q hq => he q (List.mem_cons_of_mem _ hq)
    have low : ∀ n, InS r n → p.2 + 2 ≤ n := fun n h => Ris.low hR.2.2 h
    by_cases c : s < p.1
    · have e : (gapsO s (p :: r)).map (clo m) = (s, p.1 - 1) :: (gapsO (p.2 + 1) r).map (clo m) := by
        show ((if s < p.1 then [(s, some (p.1 - 1))] else []) ++ gapsO (p.2 + 1) r).map (clo m) = _
        rw [if_pos c]
        rfl
      rw [e]
      refine ⟨⟨Int.le_refl _, by show s ≤ p.1 - 1; omega, ih1.mono (by show p.1 - 1 + 2 ≤ p.2 + 1; omega)⟩, fun n => ?_⟩
      rw [inS_cons, inS_cons, ih2 n]
      show (s ≤ n ∧ n ≤ p.1 - 1) ∨ ((p.2 + 1 ≤ n ∧ n ≤ m) ∧ ¬InS r n) ↔ (s ≤ n ∧ n ≤ m) ∧ ¬((p.1 ≤ n ∧ n ≤ p.2) ∨ InS r n)
      by_cases d : InS r n
      · have := low n d
        simp only [d, not_true, and_false, or_false, or_true]
        exact ⟨fun ⟨_, z⟩ => by omega, False.elim⟩
      · simp only [d, not_false_eq_true, and_true, or_false]
        omega
    · have e : (gapsO s (p :: r)).map (clo m) = (gapsO (p.2 + 1) r).map (clo m) := by
        show ((if s < p.1 then [(s, some (p.1 - 1))] else []) ++ gapsO (p.2 + 1) r).map (clo m) = _
        rw [if_neg c]
        rfl
      rw [e]
      refine ⟨ih1.mono (by omega), fun n => ?_⟩
      rw [inS_cons, ih2 n]
      by_cases d : InS r n
      · have := low n d
        simp only [d, not_true, and_false, or_true]
      · simp only [d, not_false_eq_true, and_true, or_false]
        omega
/-- free minutes, from the first to where the look ends -/
def FreeM (seen : Seen) (m : Int) (n : Int) : Prop := (0 ≤ n ∧ n ≤ m) ∧ ¬ InS (goodsF seen) n
/-- the windows end well ahead of m -/
def EndsB (seen : Seen) (m : Int) : Prop := ∀ s ∈ seen, ∀ q, s.1 = some q → q.2 + 2 ≤ m
theorem setL_end {seen : Seen} {m : Int} (he : EndsB seen m) : ∀ n, InS (setL (goodsF seen)) n → n + 2 ≤ m := fun n h => by
  obtain ⟨w, hw, a, b⟩ := ((told_ex (goodsF seen)).same n).mp h
  have : w.2 + 2 ≤ m := he _ (mem_goods.mp hw) w rfl
  omega
theorem runs_gaps {seen : Seen} {m : Int} (hok : WinOk seen) (he : EndsB seen m) (h0 : 0 ≤ m) {rs : List (Int × Int)} (t : Told (FreeM seen m) rs) : rs.map (opn m) = gapsO 0 (setL (goodsF seen)) := by
  have t1 := told_ex (goodsF seen)
  have hR0 : Ris 0 (setL (goodsF seen)) := t1.nneg fun n hn => by
    obtain ⟨w, hw, e1, e2⟩ := hn
    have := hok _ (mem_goods.mp hw) w rfl
    omega
  have hend := setL_end he
  obtain ⟨g1, g2⟩ := gaps_in hR0 (Int.le_refl 0) h0 fun p hp => hend p.2 ⟨p, hp, (Ris.le hR0 p hp).2, Int.le_refl _⟩
  have er : rs = (gapsO 0 (setL (goodsF seen))).map (clo m) := t.one (pr' := FreeM seen m) ⟨⟨0, g1⟩, fun n => (g2 n).trans ⟨fun h => ⟨h.1, fun z => h.2 ((t1.same n).mpr z)⟩, fun h => ⟨h.1, fun z => h.2 ((t1.same n).mp z)⟩⟩⟩ fun n => Iff.rfl
  rw [er, List.map_map]
  have : ∀ g ∈ gapsO 0 (setL (goodsF seen)), (opn m ∘ clo m) g = g := fun g hg => by
    obtain ⟨_, _, g3, _⟩ := gaps_ok hR0 (Int.le_refl 0) g hg
    obtain ⟨a, o⟩ := g
    cases o with
    | none =>
      show (a, if m < m then some m else none) = _
      rw [if_neg (Int.lt_irrefl m)]
    | some e =>
      have := hend _ (g3 e rfl).2
      show (a, if e < m then some e else none) = _
      rw [if_pos (by omega)]
  calc _ = (gapsO 0 (setL (goodsF seen))).map id := List.map_congr_left this
    _ = _ := List.map_id _
open Classical in
noncomputable def row8 (seen : Seen) (m : Int) (g : Int × Int) : Option Row4 := if none ∈ badsF seen then none else rowG (minL ((wBad seen).map (·.2))) (maxL ((wBad seen).map (·.1))) (opn m g)
theorem rows8 {seen : Seen} {m : Int} (hok : WinOk seen) (he : EndsB seen m) (h0 : 0 ≤ m) {rs : List (Int × Int)} (t : Told (FreeM seen m) rs) : rs.filterMap (row8 seen m) = rowsAtF seen := by
  unfold rowsAtF
  by_cases hn : none ∈ badsF seen
  · rw [if_pos hn]
    exact List.filterMap_eq_nil_iff.mpr fun g _ => by unfold row8; rw [if_pos hn]
  · rw [if_neg hn]
    show _ = (gapsO 0 (setL (goodsF seen))).filterMap _
    rw [← runs_gaps hok he h0 t, List.filterMap_map]
    exact congrArg (fun f => rs.filterMap f) (funext fun g => by unfold row8; rw [if_neg hn]; rfl)
/-- what the faults within a run tell of its row -/
structure Row8 (fs : List (Int × Int)) (g : Int × Int) (m : Int) (o : Option Row4) : Prop where
  no : o = none → ∀ f ∈ fs, ¬ (g.1 ≤ f.1 ∧ f.2 ≤ g.2)
  yes : ∀ r, o = some r → r.1 = g.1 ∧ r.2.1 = (if g.2 < m then some g.2 else none) ∧ (∃ f ∈ fs, (g.1 ≤ f.1 ∧ f.2 ≤ g.2) ∧ f.1 = r.2.2.1) ∧ (∀ f ∈ fs, g.1 ≤ f.1 ∧ f.2 ≤ g.2 → f.1 ≤ r.2.2.1) ∧ (∃ f ∈ fs, (g.1 ≤ f.1 ∧ f.2 ≤ g.2) ∧ f.2 = r.2.2.2) ∧ ∀ f ∈ fs, g.1 ≤ f.1 ∧ f.2 ≤ g.2 → r.2.2.2 ≤ f.2
/-- the faults from the first minute to where the look ends -/
def FaultsL (seen : Seen) (m : Int) (fs : List (Int × Int)) : Prop := ∀ x y, (x, y) ∈ fs ↔ (0 ≤ x ∧ x ≤ y ∧ y ≤ m) ∧ isFaultF seen x y = true
theorem row8_ok {seen : Seen} {m : Int} (hok : WinOk seen) (he : EndsB seen m) (hbad : ∃ s ∈ seen, s.2 = true) {fs rs : List (Int × Int)} (hf : FaultsL seen m fs) (t : Told (FreeM seen m) rs) {g : Int × Int} (hg : g ∈ rs) : Row8 fs g m (row8 seen m g) := by
  have hR : Ris 0 rs := t.nneg fun n hn => hn.1.1
  obtain ⟨h1, h2⟩ := Ris.le hR g hg
  have free : ∀ n, g.1 ≤ n → n ≤ g.2 → FreeM seen m n := fun n a b => (t.same n).mp ⟨g, hg, a, b⟩
  have h3 := (free g.2 h2 (Int.le_refl _)).1.2
  unfold row8
  by_cases hn : none ∈ badsF seen
  · rw [if_pos hn]
    refine ⟨fun _ f hf' _ => ?_, fun r z => nomatch z⟩
    exact (isF_iff.mp ((hf f.1 f.2).mp hf').2).2.1 hn
  rw [if_neg hn]
  have hne : wBad seen ≠ [] := by
    obtain ⟨⟨o, b⟩, hs, e⟩ := hbad
    have e : b = true := e
    subst e
    cases o with
    | none => exact absurd (mem_none.mpr hs) hn
    | some w => exact List.ne_nil_of_mem (mem_wBad.mpr hs)
  obtain ⟨hf1, hf2⟩ := min_spec (xs := (wBad seen).map (·.2)) (by simpa using hne)
  obtain ⟨hb1, hb2⟩ := max_spec (xs := (wBad seen).map (·.1)) (by simpa using hne)
  generalize minL ((wBad seen).map (·.2)) = fe at hf1 hf2
  generalize maxL ((wBad seen).map (·.1)) = lb at hb1 hb2
  obtain ⟨w1, hw1, rfl⟩ := List.mem_map.mp hf1
  obtain ⟨w2, hw2, rfl⟩ := List.mem_map.mp hb1
  have e1 := he _ (mem_wBad.mp hw1) w1 rfl
  have e2 := he _ (mem_wBad.mp hw2) w2 rfl
  have o2 := hok _ (mem_wBad.mp hw2) w2 rfl
  have inr : ∀ x y, (g.1 ≤ x ∧ y ≤ g.2) → ((x, y) ∈ fs ↔ x ≤ y ∧ w2.1 ≤ y ∧ x ≤ w1.2) := fun x y hxy => by
    rw [hf x y, isF_iff]
    constructor
    · rintro ⟨_, a, _, b, _⟩
      exact ⟨a, (b w2 hw2).1, (b w1 hw1).2⟩
    · rintro ⟨a, b, c⟩
      refine ⟨⟨by omega, a, by omega⟩, a, hn, fun w hw => ?_, clear_of hok a fun n n1 n2 => (free n (by omega) (by omega)).2⟩
      have a1 : w.1 ≤ w2.1 := hb2 _ (List.mem_map.mpr ⟨w, hw, rfl⟩)
      have a2 : w1.2 ≤ w.2 := hf2 _ (List.mem_map.mpr ⟨w, hw, rfl⟩)
      exact ⟨Int.le_trans a1 b, Int.le_trans c a2⟩
  have fin : ∀ (lx : Int), g.1 ≤ w1.2 → w2.1 ≤ g.2 → (lx = w1.2 ∧ w1.2 ≤ g.2 ∨ lx = g.2 ∧ g.2 ≤ w1.2) → Row8 fs g m (some (g.1, (if g.2 < m then some g.2 else none), lx, if g.1 > w2.1 then g.1 else w2.1)) := fun lx c1 c2 c3 => by
    refine ⟨fun z => (nomatch z), fun r z => ?_⟩
    cases z
    refine ⟨rfl, rfl, ⟨(lx, g.2), (inr _ _ ⟨by omega, Int.le_refl _⟩).mpr ⟨by omega, c2, by omega⟩, ⟨by show g.1 ≤ lx; omega, Int.le_refl _⟩, rfl⟩, fun f hf' hr => ?_, ⟨(g.1, if g.1 > w2.1 then g.1 else w2.1), (inr _ _ ⟨Int.le_refl _, by split <;> omega⟩).mpr ⟨by split <;> omega, by split <;> omega, c1⟩, ⟨Int.le_refl _, by show (if g.1 > w2.1 then g.1 else w2.1) ≤ g.2; split <;> omega⟩, rfl⟩, fun f hf' hr => ?_⟩
    · have := (inr f.1 f.2 hr).mp hf'
      show f.1 ≤ lx
      omega
    · have := (inr f.1 f.2 hr).mp hf'
      show (if g.1 > w2.1 then g.1 else w2.1) ≤ f.2
      split <;> omega
  have non : (g.1 > w1.2 ∨ g.2 < w2.1) → ∀ f ∈ fs, ¬ (g.1 ≤ f.1 ∧ f.2 ≤ g.2) := fun c f hf' hr => by
    have := (inr f.1 f.2 hr).mp hf'
    omega
  unfold rowG opn
  by_cases c : g.2 < m
  · simp only [if_pos c] at fin ⊢
    by_cases d : g.1 ≤ w1.2 ∧ w2.1 ≤ g.2
    · rw [if_pos d]
      refine fin _ d.1 d.2 ?_
      by_cases k : g.2 < w1.2
      · rw [if_pos k]
        exact .inr ⟨rfl, by omega⟩
      · rw [if_neg k]
        exact .inl ⟨rfl, by omega⟩
    · rw [if_neg d]
      exact ⟨fun _ => non (by omega), fun r z => nomatch z⟩
  · simp only [if_neg c] at fin ⊢
    by_cases d : g.1 ≤ w1.2
    · rw [if_pos d]
      exact fin _ d (by omega) (.inl ⟨rfl, by omega⟩)
    · rw [if_neg d]
      exact ⟨fun _ => non (by omega), fun r z => nomatch z⟩

/-! ### the rising list of these texts is one -/
theorem Str.eq_of_list {x y : Str} (h : x.cps.toList = y.cps.toList) : x = y := by
  obtain ⟨a⟩ := x
  obtain ⟨b⟩ := y
  exact congrArg Str.mk (Array.toList_inj.mp h)
theorem rising_pw : ∀ (p : Str) (l : List Str), risingS p l = true → (p :: l).Pairwise fun a b => a.cps.toList ≤ b.cps.toList
  | p, [], _ => List.pairwise_singleton _ _
  | p, x :: r, h => by
    have h : (!ltCps x.cps.toList p.cps.toList && risingS x r) = true := h
    rw [Bool.and_eq_true, Bool.not_eq_true', ltCps_eq] at h
    have h1 : p.cps.toList ≤ x.cps.toList := of_decide_eq_false h.1
    have ih := rising_pw x r h.2
    refine List.pairwise_cons.mpr ⟨fun y hy => ?_, ih⟩
    rcases List.mem_cons.mp hy with rfl | hy
    · exact h1
    · exact List.le_trans h1 ((List.pairwise_cons.mp ih).1 y hy)
theorem sorted_pw {l : List Str} (h : sortedS l = true) : l.Pairwise fun a b => a.cps.toList ≤ b.cps.toList := by
  cases l with
  | nil => exact List.Pairwise.nil
  | cons x r => exact rising_pw x r h
theorem pw_one : ∀ {xs ys : List Str}, (xs.Pairwise fun a b => a.cps.toList ≤ b.cps.toList) → (ys.Pairwise fun a b => a.cps.toList ≤ b.cps.toList) → xs.Nodup → ys.Nodup → (∀ x, x ∈ xs ↔ x ∈ ys) → xs = ys
  | [], [], _, _, _, _, _ => rfl
  | [], y :: s, _, _, _, _, h => nomatch (h y).mpr (List.mem_cons_self ..)
  | x :: r, [], _, _, _, _, h => nomatch (h x).mp (List.mem_cons_self ..)
  | x :: r, y :: s, h1, h2, n1, n2, h => by
    obtain ⟨a1, b1⟩ := List.pairwise_cons.mp h1
    obtain ⟨a2, b2⟩ := List.pairwise_cons.mp h2
    obtain ⟨c1, d1⟩ := List.nodup_cons.mp n1
    obtain ⟨c2, d2⟩ := List.nodup_cons.mp n2
    have e : x = y := by
      rcases List.mem_cons.mp ((h x).mp (List.mem_cons_self ..)) with e | e
      · exact e
      · rcases List.mem_cons.mp ((h y).mpr (List.mem_cons_self ..)) with e' | e'
        · exact e'.symm
        · exact Str.eq_of_list (List.le_antisymm (a1 y e') (a2 x e))
    subst e
    rw [pw_one b1 b2 d1 d2 fun z => ⟨fun hz => ?_, fun hz => ?_⟩]
    · rcases List.mem_cons.mp ((h z).mp (List.mem_cons_of_mem _ hz)) with e | e
      · exact absurd (e ▸ hz) c1
      · exact e
    · rcases List.mem_cons.mp ((h z).mpr (List.mem_cons_of_mem _ hz)) with e | e
      · exact absurd (e ▸ hz) c2
      · exact e
theorem SrtT.one {pr pr' : Str → Prop} {xs ys : List Str} (h : SrtT pr xs) (h' : SrtT pr' ys) (e : ∀ x, pr x ↔ pr' x) : xs = ys := pw_one (sorted_pw h.up) (sorted_pw h'.up) h.nd h'.nd fun x => (h.mem x).trans ((e x).trans (h'.mem x).symm)
theorem told_len (ps : List (Int × Int)) : (setL ps).length ≤ ps.length := by
  let qs := (ps.filter fun p => decide (p.1 ≤ p.2)).mergeSort fun p q => decide (p.1 ≤ q.1)
  have hpm : qs.Perm (ps.filter fun p => decide (p.1 ≤ p.2)) := List.mergeSort_perm _ _
  have hle : ∀ p ∈ qs, p.1 ≤ p.2 := fun p hp => of_decide_eq_true (List.mem_filter.mp (hpm.mem_iff.mp hp)).2
  have hord : qs.Pairwise fun p q => p.1 ≤ q.1 := by
    have z := List.pairwise_mergeSort (le := fun p q : Int × Int => decide (p.1 ≤ q.1)) (fun a b c h1 h2 => decide_eq_true (Int.le_trans (of_decide_eq_true h1) (of_decide_eq_true h2))) (fun a b => by
      rcases Int.le_total a.1 b.1 with h | h
      · simp [h]
      · simp [h]) (ps.filter fun p => decide (p.1 ≤ p.2))
    exact z.imp fun h => of_decide_eq_true h
  have main : ∀ n, n ≤ qs.length → ∃ rs, Mrg (qs.take n) rs := by
    intro n
    induction n with
    | zero => exact fun _ => ⟨[], Mrg.nil⟩
    | succ n ih =>
      intro hn
      obtain ⟨rs, m⟩ := ih (by omega)
      have hlt : n < qs.length := by omega
      have et : qs.take (n + 1) = qs.take n ++ [qs[n]] := by rw [List.take_add_one, List.getElem?_eq_getElem hlt]; rfl
      have hp := hle qs[n] (List.getElem_mem hlt)
      have ord : ∀ q ∈ qs.take n, q.1 ≤ qs[n].1 := fun q hq => by
        have h2 := hord
        rw [← List.take_append_drop n qs, List.pairwise_append] at h2
        exact h2.2.2 q hq _ (by rw [List.drop_eq_getElem_cons hlt]; exact List.mem_cons_self ..)
      rw [et]
      rcases snoc_cases rs with e0 | ⟨rs', ⟨a, b⟩, e0⟩
      · subst e0
        exact ⟨_, m.new hp ord fun _ z => nomatch z⟩
      · subst e0
        by_cases c : qs[n].1 ≤ b + 1
        · exact ⟨_, m.join hp ord c⟩
        · refine ⟨_, m.new hp ord fun r hr => ?_⟩
          obtain ⟨lo, hR⟩ := m.ris
          obtain ⟨_, h2, _, h4⟩ := Ris.front hR
          have h4' : a ≤ b := h4
          rcases List.mem_append.mp hr with y | y
          · have : r.2 + 2 ≤ a := h2 r y
            omega
          · rw [List.mem_singleton.mp y]
            show b + 2 ≤ qs[n].1
            omega
  obtain ⟨rs, m⟩ := main qs.length (Nat.le_refl _)
  rw [List.take_length] at m
  have t : Told (InS ps) rs := ⟨m.ris, m.same.trans fun n => by
    constructor
    · rintro ⟨r, hr, e⟩
      exact ⟨r, (List.mem_filter.mp (hpm.mem_iff.mp hr)).1, e⟩
    · rintro ⟨r, hr, e⟩
      exact ⟨r, hpm.mem_iff.mpr (List.mem_filter.mpr ⟨hr, decide_eq_true (by omega)⟩), e⟩⟩
  have e := t.canon
  unfold setL
  rw [← e]
  have h1 := m.len
  have h2 := hpm.length_eq
  have h3 := List.length_filter_le (fun p : Int × Int => decide (p.1 ≤ p.2)) ps
  omega
theorem rowsAt_len (seen : Seen) : (rowsAtF seen).length ≤ seen.length + 1 := by
  unfold rowsAtF
  split
  · exact Nat.zero_le _
  · unfold faultF
    have h1 := List.length_filterMap_le (rowG (minL (((badsF seen).filterMap id).map (·.2))) (maxL (((badsF seen).filterMap id).map (·.1)))) (gapsO 0 (setL (goodsF seen)))
    have h2 := gapsI_len 0 (setL (goodsF seen))
    have h3 := told_len (goodsF seen)
    have h4 : (goodsF seen).length ≤ seen.length := by
      unfold goodsF
      exact Nat.le_trans (List.length_filterMap_le _ _) (List.length_filter_le _ _)
    have h5 : (gapsO 0 (setL (goodsF seen))).length = (gapsI 0 (setL (goodsF seen))).length + 1 := by rw [gapsO_eq, List.length_append]; rfl
    omega
theorem susp_len (bs : List Bat3) (ts : List Tst) : ∀ ps : List Str, (suspF bs ts ps).length ≤ ps.length * (ts.length + 1)
  | [] => Nat.zero_le _
  | p :: r => by
    have ih := susp_len bs ts r
    have h := rowsAt_len (seenF bs ts p)
    have h2 : (seenF bs ts p).length = ts.length := List.length_map _
    rw [h2] at h
    show (List.flatMap _ _).length ≤ _
    rw [List.flatMap_cons, List.length_append, List.length_map, List.length_cons, Nat.succ_mul]
    have ih : (List.flatMap (fun p => (rowsAtF (seenF bs ts p)).map fun r => (p, r)) r).length ≤ r.length * (ts.length + 1) := ih
    omega

/-! ### a row from its second on -/
section
variable {X : Cx}
def rSlQ (K : PySem.W.Frag) : V → Option Int → Option Int → Hp → VK → Prop := fun x lo hi H Q => rSlL K x lo hi H Q ∨ rSlA K x lo hi H Q
theorem sl_seq : SlR X (rSlQ X.K) := SlR.or sl_list sl_tupA
end
theorem cutV_tail (xs : List V) : cutV xs (some 1) none = xs.drop 1 := by
  unfold cutV
  rw [HT.sIx_none, show (some (1 : Int)) = some ((1 : Nat) : Int) from rfl, HT.sIx_nat]
  by_cases h : 1 ≤ xs.length
  · rw [Nat.min_eq_left h, List.take_of_length_le (by rw [List.length_drop]; omega)]
  · rw [Nat.min_eq_right (by omega), List.drop_eq_nil_of_le (Nat.le_refl _), List.drop_eq_nil_of_le (by omega), List.take_nil]
/-- the tail of a row, of the same kind -/
theorem rSlQ.tail {K : PySem.W.Frag} {H : Hp} {a : Addr} {xs : List V} {Q : VK} (h : SqH H a xs) (q : ∀ p H', Same H H' → ((H a = some (.lst xs) ∧ H' p = some (.lst (xs.drop 1))) ∨ (H a = some (.tup xs) ∧ H' p = some (.tup (xs.drop 1)))) → Q (.ref p) H') : rSlQ K (.ref a) (some 1) none H Q := by
  rcases h with e | e
  · refine .inl ⟨a, xs, rfl, SqL.of e, fun p np => ?_⟩
    exact q p _ (same_upd np) (.inl ⟨e, by rw [upd_same, cutV_tail]⟩)
  · refine .inr ⟨a, xs, rfl, .inl (.inl e), fun hw => ?_, fun _ p np => ?_⟩
    · have e0 : xs.drop 1 = xs := by
        have := hw.1
        rw [show (some (1 : Int)) = some ((1 : Nat) : Int) from rfl, HT.sIx_nat] at this
        have : xs.length = 0 := by omega
        rw [List.length_eq_zero_iff.mp this]
        rfl
      exact q a H (Same.refl _) (.inr ⟨e, by rw [e0]; exact e⟩)
    · exact q p _ (same_upd np) (.inr ⟨e, by rw [upd_same, cutV_tail]⟩)
/-! ### rows walked -/
abbrev GxJ {α : Type} (J : It) (a0 : α) (Stp : VK → GX.Stps α) (Fin : VK → α → Hp → Prop) (tc : GX.TC) (g : TG) (tt : TT) (te : Value → TE) (vs : List Nat) (σ : L2.St) (H : Hp) (Q : VK) : Prop := tc σ H fun code H2 => ∃ W : Nat → Nat → α → Hp → Prop, (∃ m, W 0 m a0 H2) ∧ GX.TurnsR (Stp Q) (Fin Q) J g tt (te code) vs σ W
theorem iseq_gx {α : Type} {a0 : α} {Stp : VK → GX.Stps α} {Fin : VK → α → Hp → Prop} {tc : GX.TC} {te : Value → TE} {Q : VK} {K : PySem.W.Frag} {H : Hp} {a : Addr} {xs : List V} {g : TG} {tt : TT} {vs : List Nat} {σ : L2.St} (h : SqH H a xs) (r : ∀ J G, Walk J xs.length G (YAt xs) → (∀ H', GX.NoTab H H' → G H') → GxJ J a0 Stp Fin tc g tt te vs σ H Q) :
    ((∃ xs, SqL K H a xs) ∧ GxJ (Itl K a) a0 Stp Fin tc g tt te vs σ H Q) ∨ ((∃ xs, SqT K H a xs) ∧ GxJ (Itt K a) a0 Stp Fin tc g tt te vs σ H Q) := by
  rcases h with e | e
  · exact .inl ⟨⟨_, SqL.of e⟩, r _ _ walk_list fun H' n => SqL.of (n.lst e)⟩
  · exact .inr ⟨⟨_, .inl (.inl e)⟩, r _ _ walk_tup fun H' n => .inl (.inl (n.tup e))⟩
theorem zipq_vars {K : PySem.W.Frag} {H : Hp} {a b : Addr} {xs ys : List V} {σ : L2.St} {i j : Nat} {R : It → Hp → Prop} (ei : σ[i]? = some (some (.ref a))) (ej : σ[j]? = some (some (.ref b))) (ha : SqH H a xs) (hb : SqH H b ys) (hl : xs.length = ys.length)
    (r : ∀ J G, Walk J xs.length G (YPair (fun i => xs[i]?) (fun i => ys[i]?)) → (∀ H', GX.NoTab H H' → G H') → R J H) : iZipQ K (tCons (tVar i) (tCons (tVar j) tNil)) σ H R := by
  rcases ha with e | e <;> rcases hb with e2 | e2
  · exact .inl ⟨_, ei, _, ej, a, b, xs, ys, rfl, .inl ⟨SqL.of e, SqL.of e2, r _ _ (walk_zip (by omega)) fun H' n => ⟨SqL.of (n.lst e), SqL.of (n.lst e2)⟩⟩⟩
  · exact .inr (.inl ⟨_, ei, _, ej, a, b, xs, ys, rfl, .inr ⟨SqL.of e, .inl (.inl e2), r _ _ (walk_zipM hl) fun H' n => ⟨SqL.of (n.lst e), .inl (.inl (n.tup e2))⟩⟩⟩)
  · exact .inr (.inr ⟨_, ei, _, ej, a, b, xs, ys, rfl, .inl (.inl e), SqL.of e2, r _ _ (walk_zipN hl) fun H' n => ⟨.inl (.inl (n.tup e)), SqL.of (n.lst e2)⟩⟩)
  · exact .inl ⟨_, ei, _, ej, a, b, xs, ys, rfl, .inr ⟨.inl (.inl e), .inl (.inl e2), r _ _ (walk_zipTn (by omega)) fun H' n => ⟨.inl (.inl (n.tup e)), .inl (.inl (n.tup e2))⟩⟩⟩
theorem for_enQ {K : PySem.W.Frag} {a : Addr} {xs : List V} {g : TG} {tb : TS} {D : Ends} {σ : L2.St} {H0 : Hp} (hq : SqH H0 a xs) (Pv : Nat → L2.St → Hp → Prop) (h0 : Pv 0 σ H0) (hl : ∀ i σ H', Pv i σ H' → GX.NoTab H0 H')
    (turn : ∀ i x T σ H, xs[i]? = some x → Pv i σ H → H T = none → g (.ref T) σ (upd H T (.tup [.int (i : Nat), x])) fun σ2 H2 => tb { D with nx := Pv (i + 1), ct := Pv (i + 1), bk := D.nx } σ2 H2) (fin : ∀ σ H, Pv xs.length σ H → D.nx σ H) :
    ((∃ xs, SqL K H0 a xs) ∧ ForR (Ite K a) g tb D σ H0) ∨ ((∃ xs, SqT K H0 a xs) ∧ ForR (IteT K a) g tb D σ H0) := by
  have tn : ∀ i v σ H H', i < xs.length → Pv i σ H → YPair (fun i => some (.int (i : Nat))) (fun i => xs[i]?) i H v H' → g v σ H' fun σ2 H2 => tb { D with nx := Pv (i + 1), ct := Pv (i + 1), bk := D.nx } σ2 H2 := by
    rintro i v σ H H' _ hp ⟨T, x, y, rfl, nT, rfl, e1, e2⟩
    cases e1
    exact turn i y T σ H e2 hp nT
  rcases hq with h | h
  · exact .inl ⟨⟨xs, SqL.of h⟩, for_it walk_enum Pv h0 (fun i σ H' _ p => SqL.of ((hl i σ H' p).lst h)) tn fin⟩
  · exact .inr ⟨⟨xs, .inl (.inl h)⟩, for_it walk_enT Pv h0 (fun i σ H' _ p => .inl (.inl ((hl i σ H' p).tup h))) tn fin⟩
/-! ### the checkers, of any thing -/
def tupB : PyData → Int → Bool
  | .tuple ds, m => decide ((ds.length : Int) = m)
  | _, _ => false
def belB (d : PyData) (m : Int) : Bool := match numsOf d with
  | some ns => incB ns && ns.all (fun x => decide (x < m))
  | none => false
def risB (d : PyData) : Bool := match numsOf d with
  | some ns => incB ns
  | none => false
def spIsRow : Sp := fun vs H Q _ => ∃ (c : List Addr) (v : V) (d : PyData), vs = [v] ∧ Thg c H v d ∧ ∀ H', Same H H' → Q (.bl (rowOf d).isSome) H'
def spTupOf : Sp := fun vs H Q _ => ∃ (c : List Addr) (v : V) (d : PyData) (m : Int), vs = [v, .int m] ∧ Thg c H v d ∧ Q (.bl (tupB d m)) H
def spIsNum : Sp := fun vs H Q _ => ∃ (c : List Addr) (v : V) (d : PyData), vs = [v] ∧ Thg c H v d ∧ Q (.bl (isNumD d)) H
def spNums (K : PySem.W.Frag) (Ms : GX.Mq) (Xs : List Addr) (Pn : Addr) : Sp := fun vs H Q _ => ∃ (c : List Addr) (v : V) (d : PyData), vs = [v] ∧ Thg c H v d ∧ GX.TQ Ms Xs H ∧ Pn ∈ Ms ∧ ∀ H2, GX.NoTab H H2 → GX.TQ Ms Xs H2 → Q (.bl (numsOf d).isSome) H2
def spRising (K : PySem.W.Frag) (Ms : GX.Mq) (Xs : List Addr) (Pn Pr : Addr) : Sp := fun vs H Q _ => ∃ (c : List Addr) (v : V) (d : PyData), vs = [v] ∧ Thg c H v d ∧ GX.TQ Ms Xs H ∧ Pn ∈ Ms ∧ Pr ∈ Ms ∧ ∀ H2, GX.NoTab H H2 → GX.TQ Ms Xs H2 → Q (.bl (risB d)) H2
def spBelow (K : PySem.W.Frag) (Ms : GX.Mq) (Xs : List Addr) (Pn Pr Pb : Addr) : Sp := fun vs H Q _ => ∃ (c : List Addr) (v : V) (d : PyData) (m : Int), vs = [v, .int m] ∧ Thg c H v d ∧ GX.TQ Ms Xs H ∧ Pn ∈ Ms ∧ Pr ∈ Ms ∧ Pb ∈ Ms ∧ ∀ H2, GX.NoTab H H2 → GX.TQ Ms Xs H2 → Q (.bl (belB d m)) H2
abbrev sIsRow : Stmt := topS 1
theorem scIsRow : FnScope ["thing"] ["thing"] (defScope sIsRow) := ⟨rfl, rfl, rfl, by decide +kernel, rfl, by decide +kernel, by decide +kernel⟩
abbrev sTupOf : Stmt := topS 2
theorem scTupOf : FnScope ["thing", "many"] ["thing", "many"] (defScope sTupOf) := ⟨rfl, rfl, rfl, by decide +kernel, rfl, by decide +kernel, by decide +kernel⟩
abbrev sIsNum : Stmt := topS 3
theorem scIsNum : FnScope ["thing"] ["thing"] (defScope sIsNum) := ⟨rfl, rfl, rfl, by decide +kernel, rfl, by decide +kernel, by decide +kernel⟩
abbrev sNums : Stmt := topS 4
theorem scNums : FnScope ["thing", "one"] ["thing"] (defScope sNums) := ⟨rfl, rfl, rfl, by decide +kernel, rfl, by decide +kernel, by decide +kernel⟩
abbrev sRising : Stmt := topS 5
theorem scRising : FnScope ["thing", "one", "other"] ["thing"] (defScope sRising) := ⟨rfl, rfl, rfl, by decide +kernel, rfl, by decide +kernel, by decide +kernel⟩
abbrev sBelow : Stmt := topS 6
theorem scBelow : FnScope ["thing", "many", "one"] ["thing", "many"] (defScope sBelow) := ⟨rfl, rfl, rfl, by decide +kernel, rfl, by decide +kernel, by decide +kernel⟩
theorem kit2F {K : PySem.W.Frag} {t a b : String} (h1 : kitB t a = some false) (h2 : kitB t b = some false) : PySem.W.kitAny K (.type t) [.type a, .type b] = some false :=
  kitAny_cons (kit_ty h1) (fun _ => kitAny_cons (kit_ty h2) (fun _ => kitAny_nil) (fun z => nomatch z)) (fun z => nomatch z)
theorem kit2L {K : PySem.W.Frag} : PySem.W.kitAny K (.type "list") [.type "list", .type "tuple"] = some true :=
  kitAny_cons (b := true) (kit_ty (by decide +kernel)) (fun z => nomatch z) (fun _ => rfl)
theorem kit2T {K : PySem.W.Frag} : PySem.W.kitAny K (.type "tuple") [.type "list", .type "tuple"] = some true :=
  kitAny_cons (b := false) (kit_ty (by decide +kernel)) (fun _ => kitAny_cons (b := true) (kit_ty (by decide +kernel)) (fun z => nomatch z) (fun _ => rfl)) (fun z => nomatch z)
/-- isinstance(x, (list, tuple)) -/
theorem isi_row {K : PySem.W.Frag} {c : List Addr} {H : Hp} {v : V} {d : PyData} (h : Thg c H v d) : ∃ t : Value, TyX K H v t ∧ PySem.W.kitAny K t [.type "list", .type "tuple"] = some (rowOf d).isSome := by
  cases h with
  | non => exact ⟨_, .base .non, kit2F (by decide +kernel) (by decide +kernel)⟩
  | bl b => exact ⟨_, .base (.bl b), kit2F (by decide +kernel) (by decide +kernel)⟩
  | int i => exact ⟨_, .base (.int i), kit2F (by decide +kernel) (by decide +kernel)⟩
  | str x => exact ⟨_, .base (.str x), kit2F (by decide +kernel) (by decide +kernel)⟩
  | lst e n l k => exact ⟨_, .base (.lst e), kit2L⟩
  | tup e l k => exact ⟨_, .base (.tup e), kit2T⟩
def isTupD : PyData → Bool
  | .tuple _ => true
  | _ => false
theorem isi_tup {K : PySem.W.Frag} {c : List Addr} {H : Hp} {v : V} {d : PyData} (h : Thg c H v d) : ∃ t : Value, TyX K H v t ∧ PySem.W.kitOne K t (.type "tuple") = some (isTupD d) := by
  cases h with
  | non => exact ⟨_, .base .non, kit_ty (by change kitB _ _ = some false; decide +kernel)⟩
  | bl b => exact ⟨_, .base (.bl b), kit_ty (by change kitB _ _ = some false; decide +kernel)⟩
  | int i => exact ⟨_, .base (.int i), kit_ty (by change kitB _ _ = some false; decide +kernel)⟩
  | str x => exact ⟨_, .base (.str x), kit_ty (by change kitB _ _ = some false; decide +kernel)⟩
  | lst e n l k => exact ⟨_, .base (.lst e), kit_ty (by change kitB _ _ = some false; decide +kernel)⟩
  | tup e l k => exact ⟨_, .base (.tup e), kit_ty (by change kitB _ _ = some true; decide +kernel)⟩
def isIntD : PyData → Bool
  | .int _ => true
  | .bool _ => true
  | _ => false
theorem isi_int {K : PySem.W.Frag} {c : List Addr} {H : Hp} {v : V} {d : PyData} (h : Thg c H v d) : ∃ t : Value, TyX K H v t ∧ PySem.W.kitOne K t (.type "int") = some (isIntD d) := by
  cases h with
  | non => exact ⟨_, .base .non, kit_ty (by change kitB _ _ = some false; decide +kernel)⟩
  | bl b => exact ⟨_, .base (.bl b), kit_ty (by change kitB _ _ = some true; decide +kernel)⟩
  | int i => exact ⟨_, .base (.int i), kit_ty (by change kitB _ _ = some true; decide +kernel)⟩
  | str x => exact ⟨_, .base (.str x), kit_ty (by change kitB _ _ = some false; decide +kernel)⟩
  | lst e n l k => exact ⟨_, .base (.lst e), kit_ty (by change kitB _ _ = some false; decide +kernel)⟩
  | tup e l k => exact ⟨_, .base (.tup e), kit_ty (by change kitB _ _ = some false; decide +kernel)⟩
def isBoolD : PyData → Bool
  | .bool _ => true
  | _ => false
theorem isi_bool {K : PySem.W.Frag} {c : List Addr} {H : Hp} {v : V} {d : PyData} (h : Thg c H v d) : ∃ t : Value, TyX K H v t ∧ PySem.W.kitOne K t (.type "bool") = some (isBoolD d) := by
  cases h with
  | non => exact ⟨_, .base .non, kit_ty (by change kitB _ _ = some false; decide +kernel)⟩
  | bl b => exact ⟨_, .base (.bl b), kit_ty (by change kitB _ _ = some true; decide +kernel)⟩
  | int i => exact ⟨_, .base (.int i), kit_ty (by change kitB _ _ = some false; decide +kernel)⟩
  | str x => exact ⟨_, .base (.str x), kit_ty (by change kitB _ _ = some false; decide +kernel)⟩
  | lst e n l k => exact ⟨_, .base (.lst e), kit_ty (by change kitB _ _ = some false; decide +kernel)⟩
  | tup e l k => exact ⟨_, .base (.tup e), kit_ty (by change kitB _ _ = some false; decide +kernel)⟩
def isStrD : PyData → Bool
  | .str _ => true
  | _ => false
theorem isi_str {K : PySem.W.Frag} {c : List Addr} {H : Hp} {v : V} {d : PyData} (h : Thg c H v d) : ∃ t : Value, TyX K H v t ∧ PySem.W.kitOne K t (.type "str") = some (isStrD d) := by
  cases h with
  | non => exact ⟨_, .base .non, kit_ty (by change kitB _ _ = some false; decide +kernel)⟩
  | bl b => exact ⟨_, .base (.bl b), kit_ty (by change kitB _ _ = some false; decide +kernel)⟩
  | int i => exact ⟨_, .base (.int i), kit_ty (by change kitB _ _ = some false; decide +kernel)⟩
  | str x => exact ⟨_, .base (.str x), kit_ty (by change kitB _ _ = some true; decide +kernel)⟩
  | lst e n l k => exact ⟨_, .base (.lst e), kit_ty (by change kitB _ _ = some false; decide +kernel)⟩
  | tup e l k => exact ⟨_, .base (.tup e), kit_ty (by change kitB _ _ = some false; decide +kernel)⟩
section
variable {K : PySem.W.Frag} {mg : Str → Option Value} {P : Program} {w : World} {base : Heap} {Pn Pr Pb Pe Py : Addr}
theorem ok_IsRow {f : Addr} {fd : FuncData} (F : Fun K "is_row" "is_row" sIsRow f fd) (m_tuple : mg "tuple" = none) (m_list : mg "list" = none) (m_isinstance : mg "isinstance" = none) : FnOk P w K mg base CX0 1 f fd ["thing"] spIsRow := by
  refine F.ok scIsRow (fun vs H Q E h => ?_) (fun cdv A outer s H vs Q E hr h => ?_)
  · obtain ⟨c, v, d, rfl, _⟩ := h
    rfl
  · obtain ⟨c, v, d, rfl, hv, q⟩ := h
    refine ⟨_, pss_one (ps_ret (pe_callB call_isiT (by rfl) m_isinstance (by decide +kernel) (pa_cons (pv 0) (pa_cons (pe_tup (pa_cons (pe_bltn (v := .ty "list") (by rfl) m_list (by decide +kernel) rfl) (pa_cons (pe_bltn (v := .ty "tuple") (by rfl) m_tuple (by decide +kernel) rfl) pa_nil))) pa_nil)))), ?_⟩
    refine ⟨_, rfl, (by show 2 ≤ sizeLine; decide), fun p np => ?_⟩
    have s1 : Same H (upd H p (.tup [.ty "list", .ty "tuple"])) := same_upd np
    obtain ⟨t, h1, h2⟩ := isi_row (K := K) (hv.same s1)
    exact ⟨v, p, _, t, _, _, rfl, upd_same, .cons (.ty _) (.cons (.ty _) .nil), h1, h2, q _ s1⟩
theorem ok_TupOf {f : Addr} {fd : FuncData} (F : Fun K "is_tuple_of" "is_tuple_of" sTupOf f fd) (m_isinstance : mg "isinstance" = none) (m_tuple : mg "tuple" = none) (m_len : mg "len" = none) : FnOk P w K mg base CX0 1 f fd ["thing", "many"] spTupOf := by
  refine F.ok scTupOf (fun vs H Q E h => ?_) (fun cdv A outer s H vs Q E hr h => ?_)
  · obtain ⟨c, v, d, m, rfl, _⟩ := h
    rfl
  · obtain ⟨c, v, d, m, rfl, hv, q⟩ := h
    refine ⟨_, pss_one (ps_ret (pe_and (pe_callB call_isi (by rfl) m_isinstance (by decide +kernel) (pa_cons (pv 0) (pa_cons (pe_bltn (v := .ty "tuple") (by rfl) m_tuple (by decide +kernel) rfl) pa_nil))) (pe_one (pe_cmpR op_eq (pe_callB call_len_seq (by rfl) m_len PySem.boot_len (pa_cons (pv 0) pa_nil)) (pv 1) (nomark _))))), ?_⟩
    obtain ⟨t, h1, h2⟩ := isi_tup (K := K) hv
    refine ⟨_, rfl, _, _, t, _, _, rfl, .ty _, h1, h2, _, rfl, ?_⟩
    cases hv with
    | tup e l k =>
      refine iteT ⟨_, rfl, _, _, rfl, .inr (.inl (.inl e)), _, rfl, rfl, ?_⟩
      rw [l]
      have e2 : ∀ n : Nat, decide (V.int (n : Int) = V.int m) = decide ((n : Int) = m) := fun n => by simp
      rw [e2]
      exact q
    | lst e n l k => exact iteF q
    | non => exact iteF q
    | bl b => exact iteF q
    | int i => exact iteF q
    | str x => exact iteF q
theorem ok_IsNum {f : Addr} {fd : FuncData} (F : Fun K "is_number" "is_number" sIsNum f fd) (m_isinstance : mg "isinstance" = none) (m_int : mg "int" = none) (m_bool : mg "bool" = none) : FnOk P w K mg base CX0 1 f fd ["thing"] spIsNum := by
  refine F.ok scIsNum (fun vs H Q E h => ?_) (fun cdv A outer s H vs Q E hr h => ?_)
  · obtain ⟨c, v, d, rfl, _⟩ := h
    rfl
  · obtain ⟨c, v, d, rfl, hv, q⟩ := h
    refine ⟨_, pss_one (ps_ret (pe_and (pe_callB call_isi (by rfl) m_isinstance (by decide +kernel) (pa_cons (pv 0) (pa_cons (pe_bltn (v := .ty "int") (by rfl) m_int (by decide +kernel) rfl) pa_nil))) (pe_and (pe_not (pe_callB call_isi (by rfl) m_isinstance (by decide +kernel) (pa_cons (pv 0) (pa_cons (pe_bltn (v := .ty "bool") (by rfl) m_bool (by decide +kernel) rfl) pa_nil)))) (pe_one (pe_cmpR op_ge (pv 0) pe_int (nomark _)))))), ?_⟩
    obtain ⟨t, h1, h2⟩ := isi_int (K := K) hv
    obtain ⟨t2, h3, h4⟩ := isi_bool (K := K) hv
    refine ⟨_, rfl, _, _, t, _, _, rfl, .ty _, h1, h2, _, rfl, ?_⟩
    cases hv with
    | int i => exact iteT ⟨_, rfl, _, _, t2, _, _, rfl, .ty _, h3, h4, _, rfl, _, rfl, iteT ⟨_, rfl, _, _, rfl, rfl, q⟩⟩
    | bl b => exact iteT ⟨_, rfl, _, _, t2, _, _, rfl, .ty _, h3, h4, _, rfl, _, rfl, iteF q⟩
    | tup e l k => exact iteF q
    | lst e n l k => exact iteF q
    | non => exact iteF q
    | str x => exact iteF q
theorem ok_Nums {Ms : GX.Mq} {Xs : List Addr} {f c Pn : Addr} {oc kV doc pm ct : Value} {od an : Option Addr} {osl : Array (Option Value)} (lk : K.lookup f = some ⟨oc, od, .func (PySem.W.fnOf "are_numbers" "are_numbers" (defArgs sNums) (defBody sNums) (defScope sNums) .none kV doc pm an (.ref c) ct), osl⟩) (hcd : PySem.W.codeIn K (.ref c) "are_numbers" = true) (TG : GxR.TabB base mg c Pn) (C_is_row : Cal P w K mg base 1 "is_row" ["thing"] spIsRow) (C_is_number : Cal P w K mg base 1 "is_number" ["thing"] spIsNum) (m_all : mg "all" = none) : FnOk P w K mg base CX0 5 f (PySem.W.fnOf "are_numbers" "are_numbers" (defArgs sNums) (defBody sNums) (defScope sNums) .none kV doc pm an (.ref c) ct) ["thing"] (spNums K Ms Xs Pn) := by
  refine fn_of lk hcd scNums (fun vs H Q E h => ?_) (fun A outer s H vs Q E hr h => ?_)
  · obtain ⟨c0, v, d, rfl, _⟩ := h
    rfl
  · obtain ⟨c0, v, d, rfl, hv, hT, hP, q⟩ := h
    refine ⟨_, PSs.nox (pss_one (ps_ret (pe_and (pe_own C_is_row (hr.mono (show 1 ≤ 4 by decide)) (by rfl) (pa_cons (pv 0) pa_nil)) (pe_one (GX.pe_allX (k := 1) (own := [("one", 1)]) (te := fun code1 => (tCall spIsNum [] E0 (tCons (tVar 1) tNil))) (g' := (gName 1)) (tt := tYes) hr scNums.nd (by rfl) m_all TG.bm (pi_seq (pv 0)) (GX.pc_own (Ms := Ms) (Xs := Xs) TG rfl) (GX.gok_by (own := [("one", 1)]) (N := ["thing", "one"]) (sc := defScope sNums) (by decide +kernel)) (fun _ _ _ _ _ r1 gd1 => (pg_name (i := 1) scNums.nd rfl (.inl rfl))) (fun _ _ _ _ _ r1 gd1 => pts_nil) (fun _ _ _ code1 _ r1 gd1 => (pe_own C_is_number r1 (by rfl) (pa_cons (pv 1) pa_nil)))))))), ?_⟩
    refine ⟨_, rfl, c0, v, d, rfl, hv, fun H1 s1 => ⟨_, rfl, ?_⟩⟩
    have n1 := NoTab.same s1
    cases hr' : rowOf d with
    | none =>
      have e : numsOf d = none := by unfold numsOf; rw [hr']
      rw [e] at q
      exact iteF (q H1 n1 (hT.same s1))
    | some ds =>
      obtain ⟨a, xs, rfl, hA, hl⟩ := hv.row hr'
      have e : (numsOf d).isSome = ds.all isNumD := by
        unfold numsOf
        rw [hr']
        show (if ds.all isNumD then some (ds.map intD) else none).isSome = _
        cases ds.all isNumD <;> rfl
      rw [e] at q
      refine iteT ⟨_, rfl, a, rfl, iseq_gx (hA.noTab n1) fun J G wk hG => ⟨hT.same s1, hP, fun H2 c' P' n2 t2 nX eC tG => GX.turns_all wk (fun i => isNumD (ds.getD i .none)) (fun Hx => GX.NoTab H1 Hx ∧ GX.TQ Ms Xs Hx) ⟨n2, t2⟩ (fun Hx iv => hG Hx iv.1) (fun i x Hx Hx' Kt Kn hi iv hy kt _ => ?_) (fun H3 b iv hb => ?_)⟩⟩
      · obtain ⟨rfl, hx⟩ := hy
        have hi' : i < ds.length := by rw [← hl.1]; exact hi
        have ed : ds[i]? = some ds[i] := List.getElem?_eq_getElem hi'
        have eg : ds.getD i .none = ds[i] := by rw [List.getD_eq_getElem?_getD, ed]; rfl
        rw [eg] at kt
        exact ⟨rfl, _, rfl, c0, x, _, rfl, ((hl.2 i x _ hx ed).noTab n1).noTab iv.1, kt _ iv⟩
      · have e2 : b = ds.all isNumD := by
          rw [Bool.eq_iff_iff, hb, List.all_eq_true]
          constructor
          · intro h x hx
            obtain ⟨i, hi, rfl⟩ := List.getElem_of_mem hx
            have := h i (by rw [hl.1]; exact hi)
            rw [List.getD_eq_getElem?_getD, List.getElem?_eq_getElem hi] at this
            exact this
          · intro h i hi
            have hi' : i < ds.length := by rw [← hl.1]; exact hi
            rw [List.getD_eq_getElem?_getD, List.getElem?_eq_getElem hi']
            exact h _ (List.getElem_mem hi')
        rw [e2]
        exact q H3 (n1.trans iv.1) iv.2
theorem ok_Rising {Ms : GX.Mq} {Xs : List Addr} {f c Pr : Addr} {oc kV doc pm ct : Value} {od an : Option Addr} {osl : Array (Option Value)} (lk : K.lookup f = some ⟨oc, od, .func (PySem.W.fnOf "are_rising" "are_rising" (defArgs sRising) (defBody sRising) (defScope sRising) .none kV doc pm an (.ref c) ct), osl⟩) (hcd : PySem.W.codeIn K (.ref c) "are_rising" = true) (TG : GxR.TabB base mg c Pr) (C_are_numbers : Cal P w K mg base 5 "are_numbers" ["thing"] (spNums K Ms Xs Pn)) (m_all : mg "all" = none) (m_zip : mg "zip" = none) : FnOk P w K mg base CX0 6 f (PySem.W.fnOf "are_rising" "are_rising" (defArgs sRising) (defBody sRising) (defScope sRising) .none kV doc pm an (.ref c) ct) ["thing"] (spRising K Ms Xs Pn Pr) := by
  refine fn_of lk hcd scRising (fun vs H Q E h => ?_) (fun A outer s H vs Q E hr h => ?_)
  · obtain ⟨c0, v, d, rfl, _⟩ := h
    rfl
  · obtain ⟨c0, v, d, rfl, hv, hT, hPn, hP, q⟩ := h
    refine ⟨_, PSs.nox (pss_one (ps_ret (pe_and (pe_own C_are_numbers hr (by rfl) (pa_cons (pv 0) pa_nil)) (pe_one (GX.pe_allX (k := 2) (own := [("one", 1), ("other", 2)]) (te := fun code1 => (tOp (rI0 fun i j => .bl (decide (i < j))) (tVar 1) (tVar 2))) (g' := (gTup K 2 (gCons (gName 1) (gCons (gName 2) gNil)))) (tt := tYes) hr scRising.nd (by rfl) m_all TG.bm (pi_zipQ (by rfl) m_zip (pa_cons (pv 0) (pa_cons (pe_slice sl_seq (pv 0) (po_some pe_int) po_none) pa_nil))) (GX.pc_own (Ms := Ms) (Xs := Xs) TG rfl) (GX.gok_by (own := [("one", 1), ("other", 2)]) (N := ["thing", "one", "other"]) (sc := defScope sRising) (by decide +kernel)) (fun _ _ _ _ _ r1 gd1 => (pg_tup rfl (pgs_cons (pg_name (i := 1) scRising.nd rfl (.inl rfl)) (pgs_cons (pg_name (i := 2) scRising.nd rfl (.inl rfl)) pgs_nil)))) (fun _ _ _ _ _ r1 gd1 => pts_nil) (fun _ _ _ code1 _ r1 gd1 => (pe_cmpR op_lt (pv 1) (pv 2) (nomark _)))))))), ?_⟩
    refine ⟨_, rfl, c0, v, d, rfl, hv, hT, hPn, fun H1 n1 t1 => ⟨_, rfl, ?_⟩⟩
    cases hn : numsOf d with
    | none =>
      have e : risB d = false := by unfold risB; rw [hn]
      rw [e] at q
      exact iteF (q H1 n1 t1)
    | some ns =>
    have e : risB d = incB ns := by unfold risB; rw [hn]
    rw [e] at q
    obtain ⟨a, rfl, hA, h0⟩ := nums_of hv hn
    refine iteT ?_
    have hA1 := hA.noTab n1
    have lx : (ns.map V.int).length = ns.length := List.length_map ..
    have main : ∀ (J : It) (G : Hp → Prop) (H0 : Hp), GX.NoTab H1 H0 → GX.TQ Ms Xs H0 → Walk J (ns.length - 1) G (YPair (fun i => (ns.map V.int)[i]?) (fun i => ((ns.map V.int).drop 1)[i]?)) → (∀ H', GX.NoTab H0 H' → G H') →
        GxJ J () GX.stAll GX.fiAll (GX.tCo Ms Xs Pr) (gTup K 2 (gCons (gName 1) (gCons (gName 2) gNil))) tYes (fun _ => tOp (rI0 fun i j => .bl (decide (i < j))) (tVar 1) (tVar 2)) (List.map (fun x => x.2) [(("one" : Str), 1), (("other" : Str), 2)]) (L2.start ["thing", "one", "other"] [.ref a]) H0 Q := fun J G H0 nx tx wk hG => by
      refine ⟨tx, hP, fun H2 c' P' n2 t2 nX eC tG => GX.turns_all wk (fun i => decide (ns.getD i 0 < ns.getD (i + 1) 0)) (fun Hx => GX.NoTab H0 Hx ∧ GX.TQ Ms Xs Hx) ⟨n2, t2⟩ (fun Hx iv => hG Hx iv.1) (fun i x Hx Hx' Kt Kn hi iv hy kt _ => ?_) (fun H3 b iv hb => ?_)⟩
      · obtain ⟨T, u, v, rfl, nT, rfl, e1, e2⟩ := hy
        have l1 : i < ns.length := by omega
        have l2 : i + 1 < ns.length := by omega
        have e1 : (ns.map V.int)[i]? = some u := e1
        have e2 : ((ns.map V.int).drop 1)[i]? = some v := e2
        rw [List.getElem?_map, List.getElem?_eq_getElem l1] at e1
        rw [List.getElem?_drop, List.getElem?_map, show 1 + i = i + 1 by omega, List.getElem?_eq_getElem l2] at e2
        cases e1
        cases e2
        have sT := same_upd (o := .tup [.int ns[i], .int ns[i + 1]]) nT
        refine ⟨T, _, rfl, .inl (.inl upd_same), rfl, _, _, rfl, _, _, rfl, rfl, rfl, _, rfl, _, rfl, _, _, rfl, rfl, ?_⟩
        have := kt _ ⟨iv.1.trans (NoTab.same sT), iv.2.same sT⟩
        rw [List.getD_eq_getElem?_getD, List.getD_eq_getElem?_getD, List.getElem?_eq_getElem l1, List.getElem?_eq_getElem l2] at this
        exact this
      · have e2 : b = incB ns := by
          unfold incB
          rw [Bool.eq_iff_iff, hb, decide_eq_true_eq, inc_iff]
          exact ⟨fun h i hi => of_decide_eq_true (h i (by omega)), fun h i hi => decide_eq_true (h i (by omega))⟩
        rw [e2]
        exact q H3 ((n1.trans nx).trans iv.1) iv.2
    have ld : ((ns.map V.int).drop 1).length = ns.length - 1 := by rw [List.length_drop, lx]
    refine .inl ⟨_, rfl, _, rfl, _, rfl, rSlQ.tail hA1 fun p H0 s0 c => ?_⟩
    have nx := NoTab.same s0
    have tx := t1.same s0
    rcases c with ⟨e1, e2⟩ | ⟨e1, e2⟩
    · have e1' := s0 _ _ e1
      exact ⟨a, p, _, _, rfl, .inl ⟨SqL.of e1', SqL.of e2, main _ _ H0 nx tx (walk_zip (by rw [ld, lx]; omega)) fun H' n => ⟨SqL.of (n.lst e1'), SqL.of (n.lst e2)⟩⟩⟩
    · have e1' := s0 _ _ e1
      exact ⟨a, p, _, _, rfl, .inr ⟨.inl (.inl e1'), .inl (.inl e2), main _ _ H0 nx tx (walk_zipTn (by rw [ld, lx]; omega)) fun H' n => ⟨.inl (.inl (n.tup e1')), .inl (.inl (n.tup e2))⟩⟩⟩
theorem ok_Below {Ms : GX.Mq} {Xs : List Addr} {f c Pb : Addr} {oc kV doc pm ct : Value} {od an : Option Addr} {osl : Array (Option Value)} (lk : K.lookup f = some ⟨oc, od, .func (PySem.W.fnOf "are_rising_below" "are_rising_below" (defArgs sBelow) (defBody sBelow) (defScope sBelow) .none kV doc pm an (.ref c) ct), osl⟩) (hcd : PySem.W.codeIn K (.ref c) "are_rising_below" = true) (TG : GxR.TabB base mg c Pb) (C_are_rising : Cal P w K mg base 6 "are_rising" ["thing"] (spRising K Ms Xs Pn Pr)) (m_all : mg "all" = none) : FnOk P w K mg base CX0 7 f (PySem.W.fnOf "are_rising_below" "are_rising_below" (defArgs sBelow) (defBody sBelow) (defScope sBelow) .none kV doc pm an (.ref c) ct) ["thing", "many"] (spBelow K Ms Xs Pn Pr Pb) := by
  refine fn_of lk hcd scBelow (fun vs H Q E h => ?_) (fun A outer s H vs Q E hr h => ?_)
  · obtain ⟨c0, v, d, m, rfl, _⟩ := h
    rfl
  · obtain ⟨c0, v, d, m, rfl, hv, hT, hPn, hPr, hP, q⟩ := h
    refine ⟨_, PSs.nox (pss_one (ps_ret (pe_and (pe_own C_are_rising hr (by rfl) (pa_cons (pv 0) pa_nil)) (pe_one (GX.pe_allX (k := 3) (own := [("one", 2)]) (te := fun code1 => (tOp (rI0 fun i j => .bl (decide (i < j))) (tVar 2) (tVar 1))) (g' := (gName 2)) (tt := tYes) hr scBelow.nd (by rfl) m_all TG.bm (pi_seq (pv 0)) (GX.pc_own (Ms := Ms) (Xs := Xs) TG rfl) (GX.gok_by (own := [("one", 2)]) (N := ["thing", "many", "one"]) (sc := defScope sBelow) (by decide +kernel)) (fun _ _ _ _ _ r1 gd1 => (pg_name (i := 2) scBelow.nd rfl (.inl rfl))) (fun _ _ _ _ _ r1 gd1 => pts_nil) (fun _ _ _ code1 _ r1 gd1 => (pe_cmpR op_lt (pv 2) (pv 1) (nomark _)))))))), ?_⟩
    refine ⟨_, rfl, c0, v, d, rfl, hv, hT, hPn, hPr, fun H1 n1 t1 => ⟨_, rfl, ?_⟩⟩
    cases hn : numsOf d with
    | none =>
      have e : risB d = false := by unfold risB; rw [hn]
      have e2 : belB d m = false := by unfold belB; rw [hn]
      rw [e]
      rw [e2] at q
      exact iteF (q H1 n1 t1)
    | some ns =>
    have e : risB d = incB ns := by unfold risB; rw [hn]
    have e2 : belB d m = (incB ns && ns.all (fun x => decide (x < m))) := by unfold belB; rw [hn]
    rw [e]
    rw [e2] at q
    cases hi : incB ns with
    | false =>
      rw [hi] at q
      exact iteF (q H1 n1 t1)
    | true =>
    rw [hi, Bool.true_and] at q
    obtain ⟨a, rfl, hA, h0⟩ := nums_of hv hn
    refine iteT ⟨_, rfl, a, rfl, iseq_gx (hA.noTab n1) fun J G wk hG => ⟨t1, hP, fun H2 c' P' n2 t2 nX eC tG => GX.turns_all wk (fun i => decide (ns.getD i 0 < m)) (fun Hx => GX.NoTab H1 Hx ∧ GX.TQ Ms Xs Hx) ⟨n2, t2⟩ (fun Hx iv => hG Hx iv.1) (fun i x Hx Hx' Kt Kn hi iv hy kt _ => ?_) (fun H3 b iv hb => ?_)⟩⟩
    · obtain ⟨rfl, hx⟩ := hy
      rw [List.getElem?_map] at hx
      obtain ⟨p, ep, rfl⟩ := Option.map_eq_some_iff.mp hx
      have eg : ns.getD i 0 = p := by rw [List.getD_eq_getElem?_getD, ep]; rfl
      rw [eg] at kt
      exact ⟨rfl, _, rfl, _, rfl, _, _, rfl, rfl, kt Hx' iv⟩
    · have e3 : b = ns.all (fun x => decide (x < m)) := by
        rw [Bool.eq_iff_iff, hb, List.all_eq_true, List.length_map]
        constructor
        · intro h x hx
          obtain ⟨i, hi, rfl⟩ := List.getElem_of_mem hx
          have := h i hi
          rw [List.getD_eq_getElem?_getD, List.getElem?_eq_getElem hi] at this
          exact this
        · intro h i hi
          rw [List.getD_eq_getElem?_getD, List.getElem?_eq_getElem hi]
          exact h _ (List.getElem_mem hi)
      rw [e3]
      exact q H3 (n1.trans iv.1) iv.2
end

/-! ### weights of rows -/
theorem weightAll_eq : ∀ ds : List PyData, PyData.weightAll ds = (ds.map fun d => d.weight + 1).sum
  | [] => by simp [PyData.weightAll]
  | d :: r => by simp [PyData.weightAll, weightAll_eq r]
theorem weight_row {d : PyData} {ds : List PyData} (e : rowOf d = some ds) : d.weight = PyData.weightAll ds := by
  cases d <;> first | cases e | skip
  · simp only [PyData.weight]
  · simp only [PyData.weight]
theorem len_weight {ds : List PyData} : ds.length ≤ PyData.weightAll ds := by
  induction ds with
  | nil => exact Nat.zero_le _
  | cons d r ih => simp only [PyData.weightAll, List.length_cons]; omega

/-! ### comprehensions by what they make, at each place -/
theorem lc_mapW {α : Type} (k : α → V) (f : Nat → α) {J : It} {n : Nat} {G : Hp → Prop} {Y : Nat → Hp → V → Hp → Prop} (w : Walk J n G Y) {g : TG} {tt : TT} {te : TE} {vs : List Nat} {σ : L2.St} {H1 : Hp} {D : Addr} {Qd : Hp → Prop} (nD : H1 D = none) (hz : n < sizeLine) (hG : ∀ H, Same H1 H → G H)
    (turn : ∀ i x H H' (Kt : V → Hp → Prop) (Kn : Hp → Prop), i < n → Same H1 H → Y i H x H' → (∀ H4, Same H H4 → Kt (k (f i)) H4) → g x (wipe σ vs) H' fun σ2 H2 => wipe σ2 vs = wipe σ vs ∧ tt σ2 H2 fun b H3 => if b = true then te σ2 H3 Kt else Kn H3)
    (fin : ∀ H, Same H1 H → H D = some (.lst (((List.range n).map f).map k)) → Qd H) : LcW J g tt te vs σ D Qd H1 := by
  refine lc_it w (fun j H => Same H1 H ∧ H D = some (.lst (((List.range j).map f).map k))) ⟨same_upd nD, upd_same⟩ (fun i H _ p => hG H p.1) (fun i x H H' hi hP hy => ?_) (fun H hP => fin H hP.1 hP.2)
  obtain ⟨sm, eD⟩ := hP
  refine turn i x H H' _ _ hi sm hy fun H4 s4 => ⟨_, s4 _ _ eD, by rw [List.length_map, List.length_map, List.length_range]; omega, fun b o e => ?_, ?_⟩
  · rw [upd_ne (ne_of_none e nD)]
    exact s4 _ _ (sm b o e)
  · rw [upd_same, List.range_succ, List.map_append, List.map_append]
    rfl
theorem all_range {ns : List Int} {f : Nat → Bool} {g : Int → Bool} (h : ∀ i (hi : i < ns.length), f i = g ns[i]) : ((List.range ns.length).map f).all id = ns.all g := by
  rw [Bool.eq_iff_iff, List.all_map, List.all_eq_true, List.all_eq_true]
  constructor
  · intro k x hx
    obtain ⟨i, hi, rfl⟩ := List.getElem_of_mem hx
    rw [← h i hi]
    exact k i (List.mem_range.mpr hi)
  · intro k i hi
    have hi := List.mem_range.mp hi
    show f i = true
    rw [h i hi]
    exact k _ (List.getElem_mem hi)
theorem any_range {ns : List Int} {f : Nat → Bool} {g : Int → Bool} (h : ∀ i (hi : i < ns.length), f i = g ns[i]) : ((List.range ns.length).map f).any id = ns.any g := by
  rw [Bool.eq_iff_iff, List.any_map, List.any_eq_true, List.any_eq_true]
  constructor
  · rintro ⟨i, hi, k⟩
    have hi := List.mem_range.mp hi
    have k : f i = true := k
    exact ⟨_, List.getElem_mem hi, by rw [← h i hi]; exact k⟩
  · rintro ⟨x, hx, k⟩
    obtain ⟨i, hi, rfl⟩ := List.getElem_of_mem hx
    exact ⟨i, List.mem_range.mpr hi, by show f i = true; rw [h i hi]; exact k⟩

/-! ### sorted(set(xs)) of a list of whole numbers, however many -/
section
variable {P : Program} {w : World} {A : Around} {E : Value → Shared → Prop} {s : Shared}
/-- a new, empty set's object -/
abbrev set0 (w : World) : Obj := { cls := .type "set", dict := none, data := .set #[] 0 (.fresh 0 0 (!w.params.followText "set-order")) }
set_option maxRecDepth 100000 in
set_option maxHeartbeats 3200000 in
theorem set_from_list {from_ : Addr} {vs : Array Value} (nums : List Int) {Qv : Value → Shared → Prop} (calm : A.handled = none) (isl : s.heap.IsList from_ vs) (isN : IntsAre vs.toList nums) (few : nums.length + 1 < scanBound)
    (end_ : ∀ (hp' : Heap) (tk c : Nat), SetR w hp' s.heap.objs.size (fun j => decide (j ∈ nums)) c → c ≤ nums.length → (∀ b o, s.heap.get? b = some o → hp'.get? b = some o) → Qv (.ref s.heap.objs.size) { s with heap := hp', toks := tk }) :
    wpAny (model P w) A (call (.type "set") [.ref from_]) Qv E s := by
  have size_is : vs.size = nums.length := by
    rw [← Array.length_toList]
    exact IntsAre.length isN
  obtain ⟨c0, tl0, mro0⟩ := F.called_set.mro
  have made0 := F.called_set.made
  have sub0 := F.called_set.sub
  refine wpAny_call (codeAny_of_tree ?_)
  show wpAny _ _ (callAny (.type "set") _) _ _ _
  refine wpAny_pure ⟨Code.quiet_builtin _ (by decide +kernel), codeAny_builtin F.entry_type_call ?_⟩ -- the type is called
  rw [Around.under_plain (weight_type_call_type "set" [.ref from_] []) rfl]
  have no_type := F.called_set.notType
  have can_make := F.called_set.canCreate
  have checked := F.typeCall_set_1 (.ref from_)
  repeat (any_goals (first | assumption | wp_step | fail))
  refine codeAny_mono (code_set_led1 (.ref from_) (E := E) (Q₁ := fun made st => made = .ref s.heap.objs.size ∧ st = { s with heap := s.heap.push (set0 w) }) ⟨rfl, rfl⟩) fun r1 st1 told => ?_
  cases r1 with
  | error e => exact told
  | ok fl =>
    cases fl with
    | ret made =>
      obtain ⟨rfl, rfl⟩ := told
      have here : (s.heap.push (set0 w)).get? s.heap.objs.size = some (set0 w) := Heap.get?_push_size _ rfl
      have isS : Shared.TypeIs { s with heap := s.heap.push (set0 w) } (.ref s.heap.objs.size) "set" := ⟨_, here, rfl⟩
      have look := F.called_set.init.lookup
      have bnd := F.called_set.init.bind (.ref s.heap.objs.size)
      repeat (any_goals (first | assumption | wp_step | fail))
      refine codeAny_mono (codeAny_call_builtin (R := wants (fun r st => r = .none ∧ ∃ hp' tk c, st = { s with heap := hp', toks := tk } ∧ SetR w hp' s.heap.objs.size (fun j => decide (j ∈ nums)) c ∧ c ≤ nums.length ∧ (∀ b o, s.heap.get? b = some o → hp'.get? b = some o)) E) F.called_set.init.plain F.entry_set_init (check_set_init_1 isS ?_)) fun r2 st2 told2 => ?_
      · obtain ⟨ol, got, clsl, nl, datal⟩ := isl
        obtain ⟨ocls, odict, odata, oslots⟩ := ol
        simp only at clsl datal
        subst clsl; subst datal
        have got' : (s.heap.push (set0 w)).get? from_ = some { cls := .type "list", dict := odict, data := .seq vs nl, slots := oslots } := Heap.get?_push_of_some _ got
        have sub1 := F.sub_list_set
        have sub2 := F.sub_list_frozenset
        have no_dict : (Value.type "list" == Value.type "dict") = false := by decide
        have isl1 : (s.heap.push (set0 w)).IsList from_ vs := ⟨_, got', rfl, nl, rfl⟩
        unfold Builtin.«set.__init__» noKeywords Builtin.Frozenset.updateFrom -- its init
        generalize keepP : pyIter = PI
        wp_walk
        subst keepP
        refine wpAny_pyIter_list isl1 (wpAny_bind (wpAny_runValue ?_))
        have lt0 : from_ < s.heap.objs.size := Heap.lt_size got
        have calm3 : A.in1.in1.in1.handled = none := by simp [calm]
        have ne1 : from_ ≠ (s.heap.push (set0 w)).objs.size := by
          rw [Heap.size_push]
          exact Nat.ne_of_lt (Nat.lt_succ_of_lt lt0)
        have apart : s.heap.objs.size ∉ [(s.heap.push (set0 w)).objs.size, from_] := by
          rw [Heap.size_push]
          simp only [List.mem_cons, List.mem_singleton, List.not_mem_nil, or_false, not_or] -- both
          exact ⟨Nat.ne_of_lt (Nat.lt_succ_self _), Nat.ne_of_gt lt0⟩
        have vals : ∀ (i : Nat) (v : Value), vs[i]? = some v → ∃ k t, nums[i]? = some k ∧ v = .int k t := fun i v at_ => by
          have lt : i < nums.length := by
            rw [← size_is]
            exact (Array.getElem?_eq_some_iff.mp at_).1
          obtain ⟨t, e⟩ := PyProof.Rows.IntsAre.int_at isN i v (by rw [Array.getElem?_toList]; exact at_)
          refine ⟨nums[i], t, List.getElem?_eq_getElem lt, ?_⟩
          rw [e, List.getD_eq_getElem?_getD, List.getElem?_eq_getElem lt]
          rfl
        refine set_update_ints ((Walks.list calm3 _ from_ ne1 vs).toS) s.heap.objs.size apart nums size_is few vals (vs.size - 0) 0 _ (by omega) (Nat.zero_le _) ⟨⟨_, Heap.get?_push_size _ rfl, rfl, rfl⟩, (isl1.push _)⟩ ⟨0, Nat.le_refl 0, setR_new_at (Heap.get?_push_of_some _ here)⟩ ?_
        intro st3 c3 moved le3 set3
        obtain ⟨hp3, g3, d3, tk3, os3⟩ := st3
        obtain rfl : g3 = s.gens := moved.gens
        obtain rfl : d3 = s.drawn := moved.drawn
        obtain rfl : os3 = s.os := moved.os
        show wpAny _ _ _ _ _ _
        refine wpAny_pure ?_
        show wpAny _ _ (ret Value.none) _ _ _
        rw [size_is] at le3
        refine wpAny_pure ⟨rfl, hp3, tk3, c3, rfl, set3, le3, fun b o e => ?_⟩
        have lt1 : b < s.heap.objs.size := Heap.lt_size e
        refine moved.heap b o (fun z => ?_) (Heap.get?_push_of_some _ (Heap.get?_push_of_some _ e))
        rcases List.mem_cons.mp z with z | z
        · exact absurd z (Nat.ne_of_lt lt1)
        · have z' := List.mem_singleton.mp z
          rw [Heap.size_push] at z'
          exact absurd z' (Nat.ne_of_lt (Nat.lt_succ_of_lt lt1))
      · cases r2 with
        | error e => exact told2
        | ok fl2 =>
          cases fl2 with
          | ret r =>
            obtain ⟨rfl, hp', tk, c', rfl, z1, z2, z3⟩ := told2
            repeat (any_goals (first | assumption | wp_step | fail))
            exact end_ _ _ _ z1 z2 z3
          | _ => exact told2.elim
    | _ => exact told.elim
/-- sorted of a set of whole numbers -/
theorem sorted_of_set {a : Addr} {S : Int → Bool} {n : Nat} {Qv : Value → Shared → Prop} (R : SetR w s.heap a S n) (calm : A.handled = none)
    (end_ : ∀ st p (out : Array Value) (c : Nat) (ns : List Int), (∀ b o, s.heap.get? b = some o → st.heap.get? b = some o) → st.gens = s.gens → st.os = s.os → s.heap.objs.size ≤ p → st.heap.get? p = some (seqObj "list" out c) → IntsAre out.toList ns → ns.Pairwise (· < ·) → (∀ k, k ∈ ns ↔ S k = true) → ns.length = n → Qv (.ref p) st) :
    wpAny (model P w) A (call (.builtin "sorted") [.ref a]) Qv E s := by
  obtain ⟨o, es, ep, t, ho, hex, hd, g, nd, hm, hb, hf, hn, hr, hl⟩ := R -- what a set's object is
  refine Calls.call_function_entry kind_sorted plain_sorted entry_sorted (args_sorted1 _) ?_ -- called
  unfold Builtin.«sorted»
  refine wpAny_bind (m := checkCount "sorted" 1 1 _) (wpAny_pure (wpAny_bind (collect_set (A := A.in1) calm ⟨o, ho, hex.1, hd⟩ hf hb hr hl fun s1 vs k1 hz g1 o1 pm => ?_)))
  have long : vs.length ≤ sizeLine := by
    rw [pm.length_eq, List.length_map, Array.length_toList]
    exact fits_of_scanBound hb
  have isI := ints_of vs fun v hv => by
    obtain ⟨e, he, q⟩ := List.mem_map.mp (pm.mem_iff.mp hv)
    obtain ⟨k, tk, h1, _⟩ := g e he
    exact ⟨k, tk, by rw [← q]; exact h1⟩
  have keys : (vs.map Builtin.Re.reRawOf).Perm (es.toList.map keyOf) := by
    have q := pm.map Builtin.Re.reRawOf
    rwa [List.map_map] at q
  refine wpAny_bind (wpAny_newList ?_ long)
  have new1 : (s1.heap.push (seqObj "list" vs.toArray 0)).get? s1.heap.objs.size = some (seqObj "list" vs.toArray 0) := Heap.get?_push_size _ rfl
  refine wpAny_bind (wpAny_holding (wpAny_call_entry slot_list_sort ⟨_, new1, rfl⟩ entry_list_sort (SrtO.list_sort_ord SrtO.swo_int new1 long (fun two => SrtO.ints_sortable isI two) fun out w1 w2 => ⟨_, rfl, ?_⟩) (args_list_sort _)))
  obtain ⟨i1, i2, i3⟩ := SrtO.ints_out isI w1 w2
  obtain ⟨c, hc⟩ := sortedHeap_at (vs := vs) (out := out.toArray) new1
  have pn := i2.trans keys
  refine wpAny_pure ⟨_, rfl, end_ _ s1.heap.objs.size out.toArray c _ (fun b u e => ?_) g1 o1 hz hc i1 (lt_of_le_nodup _ i3 (pn.nodup_iff.mpr nd)) (fun k => by rw [pn.mem_iff, ← hm k]) (by rw [pn.length_eq, List.length_map, Array.length_toList]; exact hn)⟩
  have q := k1 b u e
  have lt := Heap.lt_size q
  show (sortedHeap (s1.heap.push (seqObj "list" vs.toArray 0)) s1.heap.objs.size vs out.toArray).get? b = some u
  rw [sortedHeap_old (Nat.ne_of_lt lt) (by rw [size_push']; exact Nat.lt_succ_of_lt lt)]
  exact Heap.get?_push_of_some _ q
end
/-- sorted(set(xs)) -/
def tSortedSet (K : PySem.W.Frag) (ta : TE) : TE := fun σ H Q => ta σ H fun x H1 => ∃ (l : Addr) (ns : List Int), x = .ref l ∧ SqL K H1 l (ns.map V.int) ∧ ns.length ≤ 4000 ∧ ∀ (ms : List Int) (p : Addr), ms.Pairwise (· < ·) → (∀ k, k ∈ ms ↔ k ∈ ns) → H1 p = none → Q (.ref p) (upd H1 p (.lst (ms.map V.int)))
theorem pe_sortedSet {X : Cx} {a : Expr} {ta : TE} {p p2 q pos : Pos} (hg : Gl X "sorted") (hm : X.mg "sorted" = none) (hg2 : Gl X "set") (hm2 : X.mg "set" = none) (ha : PE X a ta) (hc : X.calm = true := by rfl)
    (na : starEach [a] X.env = (false, eval a X.env) :: starEach [] X.env := by rfl) : PE X (.Call (.Name "sorted" p) [.Call (.Name "set" p2) [a] [] q] [] pos) (tSortedSet X.K ta) := by
  refine ⟨fun pins s σ H Q I h => Call_ (ld_blt I hg hm boot_sorted ?_)⟩
  refine PyProof.Rows.callWith_builtin1 (PyProof.Rows.args_cons (Call_ (ld_blt I hg2 hm2 boot_set ?_)) rfl) rfl rfl
  refine PyProof.Rows.callWith_type1 (PyProof.Rows.args_cons (thn (ha.run pins s σ H _ I h) fun v s1 ⟨x, H1, I1, r1, q1⟩ => PyProof.Rows.args_nil ?_) na) na rfl -- set(..)
  obtain ⟨l, ns, rfl, sq, few, q1⟩ := q1
  cases r1
  obtain ⟨its, r, pl, hz⟩ := I1.list sq
  refine set_from_list ns (I1.ok.hd hc) pl.isList (by simpa using RZ.intsAre_vals r) (by unfold scanBound; omega) fun hp' tk c hS le kept => PyProof.Rows.args_nil ?_
  have I2 : Inv X pins σ H1 { s1 with heap := hp', toks := tk } := I1.kept kept
  refine sorted_of_set (s := { s1 with heap := hp', toks := tk }) hS (I1.ok.hd hc) fun st p out c' ms k g o hp hg' isI up mem cnt => ?_
  have len : (ms.map V.int).length ≤ sizeLine := by
    rw [List.length_map, sizeLine_eq]
    omega
  have new : H1 p = none := I2.hok.fresh hp
  have J : Inv X pins σ (upd H1 p (.lst (ms.map V.int))) { ({ s1 with heap := hp', toks := tk } : Shared) with heap := st.heap, gens := st.gens, drawn := st.drawn, toks := st.toks } :=
    I2.call (ch := []) (Un.laid k hp new) (I2.hok.laid k hp ⟨len, out.toList, c', vals_of_ints isI, hg'⟩) (by rw [g]; exact I2.bare) (fun _ z => nomatch z)
  have e : st = { s1 with heap := st.heap, gens := st.gens, drawn := st.drawn, toks := st.toks } := by
    cases st
    cases s1
    cases o
    rfl
  rw [e]
  exact ⟨.ref p, _, J, rfl, q1 ms p up (fun k => ⟨fun z => of_decide_eq_true ((mem k).mp z), fun z => (mem k).mpr (decide_eq_true z)⟩) new⟩

/-- sorted(set(xs)), xs a list or a tuple -/
def tSortedSetQ (K : PySem.W.Frag) (ta : TE) : TE := fun σ H Q => ta σ H fun x H1 => ∃ (l : Addr) (ns : List Int), x = .ref l ∧ (SqL K H1 l (ns.map V.int) ∨ SqT K H1 l (ns.map V.int)) ∧ ns.length ≤ 4000 ∧ ∀ (ms : List Int) (p : Addr), ms.Pairwise (· < ·) → (∀ k, k ∈ ms ↔ k ∈ ns) → H1 p = none → Q (.ref p) (upd H1 p (.lst (ms.map V.int)))
theorem pe_sortedSetQ {X : Cx} {a : Expr} {ta : TE} {p p2 q pos : Pos} (hg : Gl X "sorted") (hm : X.mg "sorted" = none) (hg2 : Gl X "set") (hm2 : X.mg "set" = none) (ha : PE X a ta) (hc : X.calm = true := by rfl)
    (na : starEach [a] X.env = (false, eval a X.env) :: starEach [] X.env := by rfl) : PE X (.Call (.Name "sorted" p) [.Call (.Name "set" p2) [a] [] q] [] pos) (tSortedSetQ X.K ta) := by
  refine ⟨fun pins s σ H Q I h => Call_ (ld_blt I hg hm boot_sorted ?_)⟩
  refine PyProof.Rows.callWith_builtin1 (PyProof.Rows.args_cons (Call_ (ld_blt I hg2 hm2 boot_set ?_)) rfl) rfl rfl
  refine PyProof.Rows.callWith_type1 (PyProof.Rows.args_cons (thn (ha.run pins s σ H _ I h) fun v s1 ⟨x, H1, I1, r1, q1⟩ => PyProof.Rows.args_nil ?_) na) na rfl
  obtain ⟨l, ns, rfl, sq, few, q1⟩ := q1
  cases r1
  rcases sq with sq | sq
  · obtain ⟨its, r, pl, hz⟩ := I1.list sq
    refine set_from_list ns (I1.ok.hd hc) pl.isList (by simpa using RZ.intsAre_vals r) (by unfold scanBound; omega) fun hp' tk c hS le kept => PyProof.Rows.args_nil ?_
    have I2 : Inv X pins σ H1 { s1 with heap := hp', toks := tk } := I1.kept kept
    refine sorted_of_set (s := { s1 with heap := hp', toks := tk }) hS (I1.ok.hd hc) fun st p out c' ms k g o hp hg' isI up mem cnt => ?_
    have len : (ms.map V.int).length ≤ sizeLine := by
      rw [List.length_map, sizeLine_eq]
      omega
    have new : H1 p = none := I2.hok.fresh hp
    have J : Inv X pins σ (upd H1 p (.lst (ms.map V.int))) { ({ s1 with heap := hp', toks := tk } : Shared) with heap := st.heap, gens := st.gens, drawn := st.drawn, toks := st.toks } :=
      I2.call (ch := []) (Un.laid k hp new) (I2.hok.laid k hp ⟨len, out.toList, c', vals_of_ints isI, hg'⟩) (by rw [g]; exact I2.bare) (fun _ z => nomatch z)
    have e : st = { s1 with heap := st.heap, gens := st.gens, drawn := st.drawn, toks := st.toks } := by
      cases st
      cases s1
      cases o
      rfl
    rw [e]
    exact ⟨.ref p, _, J, rfl, q1 ms p up (fun k => ⟨fun z => of_decide_eq_true ((mem k).mp z), fun z => (mem k).mpr (decide_eq_true z)⟩) new⟩
  · obtain ⟨its, r, pl, hz⟩ := I1.tuple sq
    refine call_set_tupI ns (I1.ok.hd hc) pl (by simpa using RZ.intsAre_vals r) (by unfold scanBound; omega) fun hp' tk c hS le kept => PyProof.Rows.args_nil ?_
    have I2 : Inv X pins σ H1 { s1 with heap := hp', toks := tk } := I1.kept kept
    refine sorted_of_set (s := { s1 with heap := hp', toks := tk }) hS (I1.ok.hd hc) fun st p out c' ms k g o hp hg' isI up mem cnt => ?_
    have len : (ms.map V.int).length ≤ sizeLine := by
      rw [List.length_map, sizeLine_eq]
      omega
    have new : H1 p = none := I2.hok.fresh hp
    have J : Inv X pins σ (upd H1 p (.lst (ms.map V.int))) { ({ s1 with heap := hp', toks := tk } : Shared) with heap := st.heap, gens := st.gens, drawn := st.drawn, toks := st.toks } :=
      I2.call (ch := []) (Un.laid k hp new) (I2.hok.laid k hp ⟨len, out.toList, c', vals_of_ints isI, hg'⟩) (by rw [g]; exact I2.bare) (fun _ z => nomatch z)
    have e : st = { s1 with heap := st.heap, gens := st.gens, drawn := st.drawn, toks := st.toks } := by
      cases st
      cases s1
      cases o
      rfl
    rw [e]
    exact ⟨.ref p, _, J, rfl, q1 ms p up (fun k => ⟨fun z => of_decide_eq_true ((mem k).mp z), fun z => (mem k).mpr (decide_eq_true z)⟩) new⟩

/-! ### are_tests_of -/
def wordB (ts : List Tst) (b : Bool) (n : Int) : Bool := match ts[n.toNat]? with
  | some t => t.bad == b
  | none => false
def testsB (ts : List Tst) (d : PyData) (b : Bool) : Bool := match numsOf d with
  | some ns => belB d ts.length && ns.all (wordB ts b)
  | none => false
def spTestsOf (K : PySem.W.Frag) (Ms : GX.Mq) (Xs : List Addr) (Pn Pr Pb Pt : Addr) : Sp := fun vs H Q _ => ∃ (c : List Addr) (v : V) (d : PyData) (L : Addr) (ys : List V) (ts : List Tst) (b : Bool), vs = [v, .ref L, .str (wordD b)] ∧ Thg c H v d ∧ SqH H L ys ∧ ThgL c H ys (ts.map tstD) ∧ GX.TQ Ms Xs H ∧ Pn ∈ Ms ∧ Pr ∈ Ms ∧ Pb ∈ Ms ∧ Pt ∈ Ms ∧
  ∀ H2, GX.NoTab H H2 → GX.TQ Ms Xs H2 → Q (.bl (testsB ts d b)) H2
abbrev sTestsOf : Stmt := topS 22
theorem scTestsOf : FnScope ["numbers", "tests", "word", "number"] ["numbers", "tests", "word"] (defScope sTestsOf) := ⟨rfl, rfl, rfl, by decide +kernel, rfl, by decide +kernel, by decide +kernel⟩
section
variable {K : PySem.W.Frag} {mg : Str → Option Value} {P : Program} {w : World} {base : Heap} {Pn Pr Pb : Addr}
theorem ok_TestsOf {Ms : GX.Mq} {Xs : List Addr} {f c Pt : Addr} {oc kV doc pm ct : Value} {od an : Option Addr} {osl : Array (Option Value)} (lk : K.lookup f = some ⟨oc, od, .func (PySem.W.fnOf "are_tests_of" "are_tests_of" (defArgs sTestsOf) (defBody sTestsOf) (defScope sTestsOf) .none kV doc pm an (.ref c) ct), osl⟩) (hcd : PySem.W.codeIn K (.ref c) "are_tests_of" = true) (TG : GxR.TabB base mg c Pt) (C_are_rising_below : Cal P w K mg base 7 "are_rising_below" ["thing", "many"] (spBelow K Ms Xs Pn Pr Pb)) (m_len : mg "len" = none) (m_all : mg "all" = none) : FnOk P w K mg base CX0 8 f (PySem.W.fnOf "are_tests_of" "are_tests_of" (defArgs sTestsOf) (defBody sTestsOf) (defScope sTestsOf) .none kV doc pm an (.ref c) ct) ["numbers", "tests", "word"] (spTestsOf K Ms Xs Pn Pr Pb Pt) := by
  refine fn_of lk hcd scTestsOf (fun vs H Q E h => ?_) (fun A outer s H vs Q E hr h => ?_)
  · obtain ⟨c0, v, d, L, ys, ts, b, rfl, _⟩ := h
    rfl
  · obtain ⟨c0, v, d, L, ys, ts, b, rfl, hv, hL, hy, hT, hPn, hPr, hPb, hP, q⟩ := h
    refine ⟨_, PSs.nox (pss_one (ps_ret (pe_and (pe_own C_are_rising_below hr (by rfl) (pa_cons (pv 0) (pa_cons (pe_callB call_len_seq (by rfl) m_len PySem.boot_len (pa_cons (pv 1) pa_nil)) pa_nil))) (pe_one (GX.pe_allX (k := 4) (own := [("number", 3)]) (te := fun code1 => (tOp (rEq) (tOp (rIxT K) (tOp (TK.rIxS K) (tVar 1) (tVar 3)) (tC (.int 2))) (tVar 2))) (g' := (gName 3)) (tt := tYes) hr scTestsOf.nd (by rfl) m_all TG.bm (pi_seq (pv 0)) (GX.pc_own (Ms := Ms) (Xs := Xs) TG rfl) (GX.gok_by (own := [("number", 3)]) (N := ["numbers", "tests", "word", "number"]) (sc := defScope sTestsOf) (by decide +kernel)) (fun _ _ _ _ _ r1 gd1 => (pg_name (i := 3) scTestsOf.nd rfl (.inl rfl))) (fun _ _ _ _ _ r1 gd1 => pts_nil) (fun _ _ _ code1 _ r1 gd1 => (pe_cmpR op_eq (pe_ix ix_tup (pe_ix ix_seq (pv 1) (pv 3) (fun _ _ => rfl)) pe_int (fun _ _ => rfl)) (pv 2) (nomark _)))))))), ?_⟩
    have hyl : ys.length = ts.length := by rw [hy.1, List.length_map]
    refine ⟨_, rfl, _, rfl, L, ys, rfl, hL.imp SqL.of (fun e => .inl (.inl e)), c0, v, d, (ys.length : Int), rfl, hv, hT, hPn, hPr, hPb, fun H1 n1 t1 => ⟨_, rfl, ?_⟩⟩
    rw [hyl]
    cases hn : numsOf d with
    | none =>
      have e : belB d ts.length = false := by unfold belB; rw [hn]
      have e2 : testsB ts d b = false := by unfold testsB; rw [hn]
      rw [e]
      rw [e2] at q
      exact iteF (q H1 n1 t1)
    | some ns =>
    have e2 : testsB ts d b = (belB d ts.length && ns.all (wordB ts b)) := by unfold testsB; rw [hn]
    rw [e2] at q
    cases hb : belB d ts.length with
    | false =>
      rw [hb] at q
      exact iteF (q H1 n1 t1)
    | true =>
    rw [hb, Bool.true_and] at q
    obtain ⟨a, rfl, hA, h0⟩ := nums_of hv hn
    have hlt : ∀ n ∈ ns, n < ts.length := fun n hm => by
      unfold belB at hb
      rw [hn] at hb
      have hb : (incB ns && ns.all (fun x => decide (x < (ts.length : Int)))) = true := hb
      exact of_decide_eq_true (List.all_eq_true.mp (Bool.and_eq_true_iff.mp hb).2 n hm)
    refine iteT ⟨_, rfl, a, rfl, iseq_gx (hA.noTab n1) fun J G wk hG => ⟨t1, hP, fun H2 c' P' n2 t2 nX eC tG => GX.turns_all wk (fun i => wordB ts b (ns.getD i 0)) (fun Hx => GX.NoTab H1 Hx ∧ GX.TQ Ms Xs Hx) ⟨n2, t2⟩ (fun Hx iv => hG Hx iv.1) (fun i x Hx Hx' Kt Kn hi iv hyy kt _ => ?_) (fun H3 b' iv hb' => ?_)⟩⟩
    · obtain ⟨rfl, hx⟩ := hyy
      rw [List.getElem?_map] at hx
      obtain ⟨p, ep, rfl⟩ := Option.map_eq_some_iff.mp hx
      have eg : ns.getD i 0 = p := by rw [List.getD_eq_getElem?_getD, ep]; rfl
      rw [eg] at kt
      have hm := List.mem_of_getElem? ep
      have hp0 := h0 p hm
      have hp1 := hlt p hm
      obtain ⟨n, rfl⟩ := Int.eq_ofNat_of_zero_le hp0
      have ln : n < ts.length := by omega
      have nx := n1.trans iv.1
      obtain ⟨z, ez, hz⟩ := (hy.noTab nx).at' (List.getElem?_eq_getElem ln)
      obtain ⟨T, rfl, eT⟩ := hz.tst
      refine ⟨rfl, _, rfl, _, rfl, L, ys, (n : Int), .ref T, rfl, rfl, (hL.noTab nx).imp SqL.of (fun e => .inl (.inl e)), atI_nat ez, T, _, 2, _, rfl, rfl, .inl (.inl eT), atI_nat (j := 2) rfl, _, rfl, rfl, ?_⟩
      have ew : decide (V.str (wordD ts[n].bad) = V.str (wordD b)) = wordB ts b (n : Int) := by
        unfold wordB
        rw [show ((n : Int)).toNat = n from rfl, List.getElem?_eq_getElem ln]
        show _ = (ts[n].bad == b)
        cases ts[n].bad <;> cases b <;> decide
      rw [ew]
      exact kt _ iv
    · have e3 : b' = ns.all (wordB ts b) := by
        rw [Bool.eq_iff_iff, hb', List.all_eq_true, List.length_map]
        constructor
        · intro h x hx
          obtain ⟨i, hi, rfl⟩ := List.getElem_of_mem hx
          have := h i hi
          rw [List.getD_eq_getElem?_getD, List.getElem?_eq_getElem hi] at this
          exact this
        · intro h i hi
          rw [List.getD_eq_getElem?_getD, List.getElem?_eq_getElem hi]
          exact h _ (List.getElem_mem hi)
      rw [e3]
      exact q H3 (n1.trans iv.1) iv.2
end

/-! ### shows_at -/
def wOf (bs : List Bat3) (ts : List Tst) (p : Str) (n : Int) : Option (Int × Int) := match ts[n.toNat]? with
  | some t => winT bs p t
  | none => none
def winsF (bs : List Bat3) (ts : List Tst) (p : Str) (ns : List Int) : List (Option (Int × Int)) := ns.map (wOf bs ts p)
open Classical in
noncomputable def showsW (bs : List Bat3) (ts : List Tst) (p : Str) (nb ng : List Int) : Bool :=
  decide (1 ≤ (nb.length : Int)) && decide ((nb.length : Int) ≤ 2) && (if none ∈ winsF bs ts p nb then decide ((nb.length : Int) = 1) && decide ((ng.length : Int) = 0) else (faultF ((winsF bs ts p nb).filterMap id) ((winsF bs ts p ng).filterMap id)).isEmpty)
noncomputable def showsB (bs : List Bat3) (ts : List Tst) (p p' : Str) (db dg : PyData) : Bool := decide (p' = p) && (testsB ts db true && (testsB ts dg false && match numsOf db, numsOf dg with
  | some nb, some ng => showsW bs ts p nb ng
  | _, _ => false))
structure Tabs5 (Ms : GX.Mq) (Pf Pn Pr Pb Pt : Addr) : Prop where
  f : Pf ∈ Ms
  n : Pn ∈ Ms
  r : Pr ∈ Ms
  b : Pb ∈ Ms
  t : Pt ∈ Ms
theorem ris_few {m : Int} : ∀ {ns : List Int} {a : Int}, a ≤ m → ns.Pairwise (· < ·) → (∀ x ∈ ns, a ≤ x) → (∀ x ∈ ns, x < m) → (ns.length : Int) ≤ m - a
  | [], a, h, _, _, _ => by
    show (0 : Int) ≤ m - a
    omega
  | n :: r, a, h, hp, h0, h1 => by
    obtain ⟨p1, p2⟩ := List.pairwise_cons.mp hp
    have a1 := h0 n (List.mem_cons_self ..)
    have a2 := h1 n (List.mem_cons_self ..)
    have := ris_few (ns := r) (a := n + 1) (by omega) p2 (fun x hx => by have := p1 x hx; omega) fun x hx => h1 x (List.mem_cons_of_mem _ hx)
    rw [List.length_cons]
    omega
theorem spans_some : ∀ {os : List (Option (Int × Int))}, none ∉ os → os.map spanD = (os.filterMap id).map pairD ∧ (os.filterMap id).length = os.length
  | [], _ => ⟨rfl, rfl⟩
  | none :: _, h => absurd (List.mem_cons_self ..) h
  | some r :: os, h => by
    obtain ⟨h1, h2⟩ := spans_some (os := os) fun z => h (List.mem_cons_of_mem _ z)
    refine ⟨?_, ?_⟩
    · show spanD (some r) :: os.map spanD = pairD r :: _
      rw [h1]
      rfl
    · show (os.filterMap id).length + 1 = os.length + 1
      rw [h2]
theorem good_spans (bs : List Bat3) (ts : List Tst) (p : Str) : ∀ ng : List Int, ng.filterMap (fun n => (wOf bs ts p n).map pairD) = ((winsF bs ts p ng).filterMap id).map pairD
  | [] => rfl
  | n :: r => by
    have ih := good_spans bs ts p r
    unfold winsF at ih ⊢
    rw [List.filterMap_cons, List.map_cons, List.filterMap_cons]
    cases wOf bs ts p n with
    | none => exact ih
    | some w => exact congrArg (pairD w :: ·) ih
theorem lay_row4 : ∀ rs : List Row4, PyData.canLayAll0 (rs.map row4D) = true
  | [] => by simp only [List.map_nil, PyData.canLayAll0]
  | (a, o, b, c) :: rs => by
    rw [List.map_cons, PyData.canLayAll0, lay_row4 rs]
    cases o <;> simp [row4D, optI, PyData.canLay0, PyData.canLayAll0]
theorem depth_row4 : ∀ rs : List Row4, PyData.depthAll (rs.map row4D) ≤ 2
  | [] => by simp [PyData.depthAll]
  | (a, o, b, c) :: rs => by
    rw [List.map_cons, PyData.depthAll]
    have := depth_row4 rs
    cases o <;> simp [row4D, optI, PyData.depth, PyData.depthAll] <;> omega
theorem shaped_row4 (rs : List Row4) : SeqAt.shaped (PyData.list (rs.map row4D)) = true := by
  unfold SeqAt.shaped
  rw [PyData.canLay0, lay_row4, PyData.depth, Bool.true_and]
  exact decide_eq_true (by have := depth_row4 rs; omega)
theorem eqv_nil4 {α : Type} (f : α → PyData) (ps : List α) : PyData.eqv (PyData.list (ps.map f)) (PyData.list []) = ps.isEmpty := by
  cases ps with
  | nil => simp [PyData.eqv, PyData.eqvAll]
  | cons p r => simp [PyData.eqv, PyData.eqvAll]
/-- what stands in a row can be compared -/
def ShP (d : PyData) : Prop := ∀ ds, rowOf d = some ds → ∀ e ∈ ds, SeqAt.shaped e = true
theorem tupB_3 {c : List Addr} {H : Hp} {v : V} {d : PyData} (h : Thg c H v d) (e : tupB d 3 = true) : ∃ t x y z dx dy dz, v = .ref t ∧ H t = some (.tup [x, y, z]) ∧ d = .tuple [dx, dy, dz] ∧ Thg c H x dx ∧ Thg c H y dy ∧ Thg c H z dz := by
  cases h with
  | tup et l k =>
    rename_i a xs ds
    have e : decide ((ds.length : Int) = 3) = true := e
    have hl : ds.length = 3 := by have := of_decide_eq_true e; omega
    match ds, xs, hl, l with
    | [dx, dy, dz], [x, y, z], _, _ => exact ⟨_, x, y, z, dx, dy, dz, rfl, et, rfl, k 0 _ _ rfl rfl, k 1 _ _ rfl rfl, k 2 _ _ rfl rfl⟩
    | [dx, dy, dz], [], _, l => cases l
    | [dx, dy, dz], [_], _, l => cases l
    | [dx, dy, dz], [_, _], _, l => cases l
    | [dx, dy, dz], _ :: _ :: _ :: _ :: _, _, l => simp at l
  | lst et n l k => cases e
  | non => cases e
  | bl b => cases e
  | int i => cases e
  | str x => cases e
noncomputable def showsT (bs : List Bat3) (ts : List Tst) (p : Str) (t : PyData) : Bool := match t with
  | .tuple [.str p', db, dg] => showsB bs ts p p' db dg
  | _ => false
theorem showsT_not {bs : List Bat3} {ts : List Tst} {p : Str} {t : PyData} (h : tupB t 3 = false) : showsT bs ts p t = false := by
  unfold showsT
  split
  · exact absurd h (by unfold tupB; simp)
  · rfl
theorem eqv_str_iff {d : PyData} {y : Str} : PyData.eqv d (.str y) = true ↔ d = .str y := by
  cases d <;> simp [PyData.eqv]
theorem showsT_x {bs : List Bat3} {ts : List Tst} {p : Str} {dx db dg : PyData} (h : ¬ dx = .str p) : showsT bs ts p (.tuple [dx, db, dg]) = false := by
  unfold showsT
  split
  · rename_i p' _ _ heq
    cases heq
    unfold showsB
    rw [decide_eq_false (fun z => h (by rw [z]))]
    rfl
  · rfl
def spShowsAt (K : PySem.W.Frag) (Ms : GX.Mq) (Xs : List Addr) (Pf Pn Pr Pb Pt : Addr) : Sp := fun vs H Q _ => ∃ (vb v : V) (L : Addr) (p' : Str) (t : PyData) (ys : List V) (bs : List Bat3) (ts : List Tst) (cs : List Addr), vs = [vb, .ref L, .str p', v] ∧ Given cs H vb (.ref L) bs ts ∧ CaseOk bs ts ∧ SqH H L ys ∧ ThgL cs H ys (ts.map tstD) ∧ Thg cs H v t ∧ ShP t ∧ SeqAt.shaped (.str p') = true ∧ GX.TQ Ms Xs H ∧ Tabs5 Ms Pf Pn Pr Pb Pt ∧
  ∀ H2, GX.NoTab H H2 → GX.TQ Ms Xs H2 → Q (.bl (showsT bs ts p' t)) H2
abbrev sShowsAt : Stmt := topS 23
theorem scShowsAt : FnScope ["batches", "tests", "place", "triple", "bad", "good", "windows", "met", "number"] ["batches", "tests", "place", "triple"] (defScope sShowsAt) := ⟨rfl, rfl, rfl, by decide +kernel, rfl, by decide +kernel, by decide +kernel⟩
section
variable {K : PySem.W.Frag} {mg : Str → Option Value} {P : Program} {w : World} {base : Heap} {Ms : GX.Mq} {Xs : List Addr} {Pf Pn Pr Pb Pt : Addr}
theorem ok_ShowsAt {f : Addr} {fd : FuncData} (F : Fun K "shows_at" "shows_at" sShowsAt f fd) (C_is_tuple_of : Cal P w K mg base 1 "is_tuple_of" ["thing", "many"] spTupOf) (C_are_tests_of : Cal P w K mg base 8 "are_tests_of" ["numbers", "tests", "word"] (spTestsOf K Ms Xs Pn Pr Pb Pt)) (C_windows_tested : Cal P w K mg base 3 "windows_tested" ["batches", "tests", "place"] (spTested K)) (C_fault_rows : Cal P w K mg base 5 "fault_rows" ["bad", "good"] (spFaultR K Ms Xs Pf)) (c_BAD : ∃ u, mg "BAD" = some u ∧ RelV (.str "bad") u) (c_GOOD : ∃ u, mg "GOOD" = some u ∧ RelV (.str "good") u) (c_MOST_BAD : ∃ u, mg "MOST_BAD" = some u ∧ RelV (.int 2) u) (m_len : mg "len" = none) : FnOk P w K mg base CX0 9 f fd ["batches", "tests", "place", "triple"] (spShowsAt K Ms Xs Pf Pn Pr Pb Pt) := by
  refine F.ok scShowsAt (fun vs H Q E h => ?_) (fun cdv A outer s H vs Q E hr h => ?_)
  · obtain ⟨vb, v, L, p', t, ys, bs, ts, cs, rfl, _⟩ := h
    rfl
  · obtain ⟨vb, v, L, p', t, ys, bs, ts, cs, rfl, hG, hC, hL, hy, hv, hSh, hSp, hT, hP, q⟩ := h
    refine ⟨_, pss_cons (ps_if (PW.pt (pw_or (pt_not (pt_val (pe_own C_is_tuple_of (hr.mono (show 1 ≤ 8 by decide)) (by rfl) (pa_cons (pv 3) (pa_cons pe_int pa_nil))))) (pw_or1 (pt_cmpR (op_neD hr.units) (pe_ix ix_tup (pv 3) pe_int (fun _ _ => rfl)) (pv 2) (nomark _))))) (pss_one (ps_ret pe_bl))
        pss_nil)
      (pss_cons (ps_par rfl scShowsAt.nd (i := 4) (j := 5) rfl rfl (by decide) rfl rfl (pa_cons (pe_ix ix_tup (pv 3) pe_int (fun _ _ => rfl)) (pa_cons (pe_ix ix_tup (pv 3) pe_int (fun _ _ => rfl)) pa_nil)) (by rfl))
      (pss_cons (ps_if (PW.pt (pw_or (pt_not (pt_val (pe_own C_are_tests_of hr (by rfl) (pa_cons (pv 4) (pa_cons (pv 1) (pa_cons (C8.pe_gc (by rfl) c_BAD) pa_nil)))))) (pw_or1 (pt_not (pt_val (pe_own C_are_tests_of hr (by rfl) (pa_cons (pv 5) (pa_cons (pv 1) (pa_cons (C8.pe_gc (by rfl) c_GOOD) pa_nil))))))))) (pss_one (ps_ret pe_bl))
        pss_nil)
      (pss_cons (ps_if (pt_not (pt_chain op_le op_le pe_int (pe_callB call_len_seq (by rfl) m_len PySem.boot_len (pa_cons (pv 4) pa_nil)) (C8.pe_gc (by rfl) c_MOST_BAD))) (pss_one (ps_ret pe_bl))
        pss_nil)
      (pss_cons (ps_set (i := 6) scShowsAt.nd rfl (.inr rfl) (pe_own C_windows_tested (hr.mono (show 3 ≤ 8 by decide)) (by rfl) (pa_cons (pv 0) (pa_cons (pv 1) (pa_cons (pv 2) pa_nil)))))
      (pss_cons (ps_setLc (i := 7) (own := [("number", 8)]) (g := (gName 8)) (tt := tYes) (te := (tOp (rIxL K) (tVar 6) (tVar 8))) rfl scShowsAt.nd rfl rfl (sw_true rfl rfl rfl (by decide +kernel)) (pi_seq (pv 4)) (blkOk_by (own := [("number", 8)]) (N := ["batches", "tests", "place", "triple", "bad", "good", "windows", "met", "number"]) (sc := defScope sShowsAt) (by decide +kernel)) (fun _ _ _ _ _ => (pg_name (i := 8) scShowsAt.nd rfl (.inl rfl))) (fun _ _ _ _ _ => pts_nil) (fun _ _ _ _ _ => (pe_ix ix_list (pv 6) (pv 8) (fun _ _ => rfl))))
      (pss_cons (ps_if (pt_cmpR (op_inD (u65 hr)) pe_non (pv 7) (by rfl)) (pss_one (ps_ret (pe_and (pe_cmpR op_eq (pe_callB call_len_seq (by rfl) m_len PySem.boot_len (pa_cons (pv 4) pa_nil)) pe_int (nomark _)) (pe_one (pe_cmpR op_eq (pe_callB call_len_seq (by rfl) m_len PySem.boot_len (pa_cons (pv 5) pa_nil)) pe_int (nomark _))))))
        pss_nil)
      (pss_one (ps_ret (pe_cmpR (op_eqD hr.units) (pe_own C_fault_rows (hr.mono (show 5 ≤ 8 by decide)) (by rfl) (pa_cons (pv 7) (pa_cons (pe_lc (own := [("number", 8)]) (g := (gName 8)) (tt := (tTest (tOp (fun x y H Q => y = .non ∧ Q (.bl (!decide (x = .non))) H) (tOp (rIxL K) (tVar 6) (tVar 8)) (tC .non)))) (te := (tOp (rIxL K) (tVar 6) (tVar 8))) rfl scShowsAt.nd (pi_seq (pv 5)) (blkOk_by (own := [("number", 8)]) (N := ["batches", "tests", "place", "triple", "bad", "good", "windows", "met", "number"]) (sc := defScope sShowsAt) (by decide +kernel)) (fun _ _ _ _ _ => (pg_name (i := 8) scShowsAt.nd rfl (.inl rfl))) (fun _ _ _ _ _ => (pts_one (pt_cmpR op_notN (pe_ix ix_list (pv 6) (pv 8) (fun _ _ => rfl)) pe_non (nomark _)))) (fun _ _ _ _ _ => (pe_ix ix_list (pv 6) (pv 8) (fun _ _ => rfl)))) pa_nil))) (pe_lst pa_nil) (nomark _)))))))))), ?_⟩
    have q0 : showsT bs ts p' t = false → ∀ H2, GX.NoTab H H2 → GX.TQ Ms Xs H2 → Q (.bl false) H2 := fun e H2 n t2 => by rw [← e]; exact q H2 n t2
    refine ⟨_, rfl, cs, v, t, 3, rfl, hv, _, rfl, ?_⟩
    cases hT3 : tupB t 3 with
    | false => exact iteT (iteT (q0 (showsT_not hT3) H (GX.NoTab.refl H) hT))
    | true =>
    obtain ⟨T, x1, x2, x3, dx, db, dg, rfl, eT, rfl, g1, g2, g3⟩ := tupB_3 hv hT3
    refine iteF ⟨_, rfl, T, _, 0, _, rfl, rfl, .inl (.inl eT), atI_nat (j := 0) rfl, _, rfl, dx, .str p', g1.dp, .str _, hSh _ rfl dx (by simp), hSp, _, rfl, ite2 (fun c => ?_) (fun c => ?_)⟩
    · have hp : ¬ dx = .str p' := fun z => by
        rw [eqv_str_iff.mpr z] at c
        cases c
      exact q0 (showsT_x hp) H (GX.NoTab.refl H) hT
    · have hp : dx = .str p' := eqv_str_iff.mp (by cases h : PyData.eqv dx (.str p') <;> simp [h] at c ⊢)
      subst hp
      have q : ∀ H2, GX.NoTab H H2 → GX.TQ Ms Xs H2 → Q (.bl (showsB bs ts p' p' db dg)) H2 := q
      refine ⟨_, rfl, T, _, 1, _, rfl, rfl, .inl (.inl eT), atI_nat (j := 1) rfl, _, rfl, T, _, 2, _, rfl, rfl, .inl (.inl eT), atI_nat (j := 2) rfl, x2, x3, rfl, ?_⟩
      have hfal : testsB ts db true = false ∨ testsB ts dg false = false → showsB bs ts p' p' db dg = false := fun h => by
        unfold showsB
        rcases h with h | h
        · rw [h, Bool.false_and, Bool.and_false]
        · rw [h, Bool.false_and, Bool.and_false, Bool.and_false]
      refine ⟨_, rfl, _, rfl, cs, x2, db, L, ys, ts, true, rfl, g2, hL, hy, hT, hP.n, hP.r, hP.b, hP.t, fun H1 n1 t1 => ⟨_, rfl, ?_⟩⟩
      cases hb1 : testsB ts db true with
      | false =>
        rw [hfal (.inl hb1)] at q
        exact iteT (iteT (q H1 n1 t1))
      | true =>
      refine iteF ⟨_, rfl, _, rfl, cs, x3, dg, L, ys, ts, false, rfl, g3.noTab n1, hL.noTab n1, hy.noTab n1, t1, hP.n, hP.r, hP.b, hP.t, fun H2 n2 t2 => ⟨_, rfl, ?_⟩⟩
      have n02 := n1.trans n2
      cases hb2 : testsB ts dg false with
      | false =>
        rw [hfal (.inr hb2)] at q
        exact iteT (q H2 n02 t2)
      | true =>
      refine iteF ?_
      obtain ⟨nb, enb⟩ : ∃ nb, numsOf db = some nb := by
        unfold testsB at hb1
        cases h : numsOf db with
        | none => rw [h] at hb1; cases hb1
        | some nb => exact ⟨nb, rfl⟩
      obtain ⟨ng, eng⟩ : ∃ ng, numsOf dg = some ng := by
        unfold testsB at hb2
        cases h : numsOf dg with
        | none => rw [h] at hb2; cases hb2
        | some ng => exact ⟨ng, rfl⟩
      have eq : showsB bs ts p' p' db dg = showsW bs ts p' nb ng := by
        unfold showsB
        rw [hb1, hb2, enb, eng, decide_eq_true rfl]
        rfl
      rw [eq] at q
      obtain ⟨a, rfl, hA, ha0⟩ := nums_of g2 enb
      obtain ⟨b, rfl, hB, hb0⟩ := nums_of g3 eng
      have hA2 := hA.noTab n02
      have hB2 := hB.noTab n02
      refine ⟨_, rfl, a, nb.map V.int, rfl, hA2.imp SqL.of (fun e => .inl (.inl e)), ?_⟩
      rw [List.length_map]
      have hno : ¬ (1 ≤ (nb.length : Int) ∧ (nb.length : Int) ≤ 2) → showsW bs ts p' nb ng = false := fun h => by
        unfold showsW
        by_cases c1 : 1 ≤ (nb.length : Int)
        · rw [decide_eq_false (p := (nb.length : Int) ≤ 2) fun z => h ⟨c1, z⟩, Bool.and_false, Bool.false_and]
        · rw [decide_eq_false c1, Bool.false_and, Bool.false_and]
      refine ⟨_, _, rfl, rfl, _, rfl, ite2 (fun c1 => ⟨_, _, rfl, rfl, _, rfl, ?_⟩) (fun c1 => ?_)⟩
      rotate_left
      · rw [hno fun z => c1 (decide_eq_true z.1)] at q
        exact ⟨_, rfl, iteT (q H2 n02 t2)⟩
      by_cases c2 : (nb.length : Int) ≤ 2
      rotate_left
      · rw [hno fun z => c2 z.2] at q
        rw [decide_eq_false c2]
        exact iteT (q H2 n02 t2)
      rw [decide_eq_true c2]
      have c1 := of_decide_eq_true c1
      have eq2 : showsW bs ts p' nb ng = (if none ∈ winsF bs ts p' nb then decide ((nb.length : Int) = 1) && decide ((ng.length : Int) = 0) else (faultF ((winsF bs ts p' nb).filterMap id) ((winsF bs ts p' ng).filterMap id)).isEmpty) := by
        unfold showsW
        rw [decide_eq_true c1, decide_eq_true c2, Bool.true_and, Bool.true_and]
      rw [eq2] at q
      refine iteF ⟨_, rfl, _, rfl, _, rfl, vb, .ref L, p', bs, ts, cs, rfl, hG.noTab n02, hC, fun l us H3 nl s3 el hus => ?_⟩
      have n3 : GX.NoTab H H3 := n02.trans (NoTab.same s3)
      have t3 := t2.same s3
      have hA3 := hA2.noTab (NoTab.same s3)
      have hB3 := hB2.noTab (NoTab.same s3)
      have hM : ∀ (d : PyData) (w : Bool) (ns : List Int), testsB ts d w = true → numsOf d = some ns → (∀ x ∈ ns, 0 ≤ x) → ∀ n ∈ ns, ∃ (m : Nat) (t : Tst), n = (m : Int) ∧ ts[m]? = some t := fun d w ns h e h0 n hn => by
        unfold testsB at h
        rw [e] at h
        obtain ⟨h1, _⟩ := Bool.and_eq_true_iff.mp h
        unfold belB at h1
        rw [e] at h1
        have h1 : (incB ns && ns.all (fun x => decide (x < (ts.length : Int)))) = true := h1
        have lt := of_decide_eq_true (List.all_eq_true.mp (Bool.and_eq_true_iff.mp h1).2 n hn)
        obtain ⟨m, rfl⟩ := Int.eq_ofNat_of_zero_le (h0 n hn)
        exact ⟨m, _, rfl, List.getElem?_eq_getElem (by omega)⟩
      have hgl : ∀ ns, testsB ts dg false = true → numsOf dg = some ns → ns.length ≤ 300 := fun ns h e => by
        have htl := hC.tl
        have h0 : ∀ x ∈ ns, 0 ≤ x := by
          rw [eng] at e
          cases e
          exact hb0
        unfold testsB at h
        rw [e] at h
        obtain ⟨h1, _⟩ := Bool.and_eq_true_iff.mp h
        unfold belB at h1
        rw [e] at h1
        have h1 : (incB ns && ns.all (fun x => decide (x < (ts.length : Int)))) = true := h1
        obtain ⟨h2, h3⟩ := Bool.and_eq_true_iff.mp h1
        have := ris_few (a := 0) (m := (ts.length : Int)) (by omega) (of_decide_eq_true h2) h0 fun x hx => of_decide_eq_true (List.all_eq_true.mp h3 x hx)
        omega
      have hU : ∀ n, (∃ (m : Nat) (t : Tst), n = (m : Int) ∧ ts[m]? = some t) → ∃ (m : Nat) (v : V), n = (m : Int) ∧ us[m]? = some v ∧ Thg [] H3 v (spanD (wOf bs ts p' n)) := fun n ⟨m, t, e, et⟩ => by
        subst e
        obtain ⟨v, ev, hv⟩ := hus.at' (f := fun t => spanD (winT bs p' t)) et
        refine ⟨m, v, rfl, ev, ?_⟩
        unfold wOf
        rw [show ((m : Int)).toNat = m from rfl, et]
        exact hv
      have hUb := fun n hn => hU n (hM db true nb hb1 enb ha0 n hn)
      have hUg := fun n hn => hU n (hM dg false ng hb2 eng hb0 n hn)
      refine ⟨_, rfl, a, rfl, iseq_lc hA3 fun J G wk hGo D nD => lc_thg ((winsF bs ts p' nb).map spanD) wk [] nD (by unfold winsF; rw [List.length_map, List.length_map, List.length_map]) (by rw [List.length_map]; omega) (fun H' s => hGo H' (NoTab.same s)) (fun k z d H5 H5' Kt Kn hd s5 hyy kt => ?_) (fun H5 vs5 s5 eD h5 => ?_)⟩
      · obtain ⟨rfl, hx⟩ := hyy
        rw [List.getElem?_map] at hx
        obtain ⟨n, en, rfl⟩ := Option.map_eq_some_iff.mp hx
        obtain ⟨m, v, rfl, ev, hv⟩ := hUb n (List.mem_of_getElem? en)
        have ed : d = spanD (wOf bs ts p' (m : Int)) := by
          unfold winsF at hd
          rw [List.getElem?_map, List.getElem?_map, en] at hd
          cases hd
          rfl
        subst ed
        exact ⟨rfl, _, rfl, _, rfl, l, us, (m : Int), v, rfl, rfl, SqL.of (s5 _ _ el), atI_nat ev, kt _ _ (Same.refl _) (hv.same s5).span⟩
      · have dpB : Dp K H5 (.ref D) (.list ((winsF bs ts p' nb).map spanD)) := ((h5.less (cs' := []) (by simp)).lst eD (by simp)).dp
        refine ⟨_, rfl, .none, (winsF bs ts p' nb).map spanD, .non, dpB, by rfl, shaped_spans _, _, rfl, ite2 (fun c => ?_) (fun c => ?_)⟩
        · have hn := (none_in _).mp c
          rw [if_pos hn] at q
          have hA5 := hA3.noTab (NoTab.same s5)
          have hB5 := hB3.noTab (NoTab.same s5)
          refine ⟨_, rfl, a, nb.map V.int, rfl, hA5.imp SqL.of (fun e => .inl (.inl e)), ?_⟩
          rw [List.length_map]
          have n5 := n3.trans (NoTab.same s5)
          have t5 := t3.same s5
          refine ⟨rfl, _, rfl, ite2 (fun c => ?_) (fun c => ?_)⟩
          · have c := V.int.inj (of_decide_eq_true c)
            rw [decide_eq_true c, Bool.true_and] at q
            refine ⟨_, rfl, b, ng.map V.int, rfl, hB5.imp SqL.of (fun e => .inl (.inl e)), ?_⟩
            rw [List.length_map]
            have e0 : decide (V.int (ng.length : Int) = V.int 0) = decide ((ng.length : Int) = 0) := by simp
            refine ⟨rfl, ?_⟩
            rw [e0]
            exact q H5 n5 t5
          · rw [decide_eq_false (fun z => c (decide_eq_true (congrArg V.int z))), Bool.false_and] at q
            exact q H5 n5 t5
        · have hn : none ∉ winsF bs ts p' nb := fun z => c ((none_in _).mpr z)
          rw [if_neg hn] at q
          have hB5 := hB3.noTab (NoTab.same s5)
          have t5 := t3.same s5
          obtain ⟨es, el5⟩ := spans_some hn
          have hngl : ng.length ≤ 300 := hgl ng hb2 eng
          refine ⟨_, rfl, _, rfl, b, rfl, iseq_lc hB5 fun J G wk hGo D2 nD2 => lc_thgF (fun i => (ng[i]?).bind fun n => (wOf bs ts p' n).map pairD) wk [] nD2 (by rw [List.length_map]; omega) (fun H' s => hGo H' (NoTab.same s)) (fun k z H6 H6' Kt Kn hk s6 hyy kt kn => ?_) (fun H6 vs6 s6 eD6 h6 => ?_)⟩
          · obtain ⟨rfl, hx⟩ := hyy
            rw [List.getElem?_map] at hx
            obtain ⟨n, en, rfl⟩ := Option.map_eq_some_iff.mp hx
            obtain ⟨m, v, rfl, ev, hv⟩ := hUg n (List.mem_of_getElem? en)
            have s36 := s5.trans s6
            have hv6 := hv.same s36
            rw [en] at kt kn
            have kt' := fun y d H4 (e : (wOf bs ts p' (m : Int)).map pairD = some d) => kt y d H4 e
            have kn' := fun H4 (e : (wOf bs ts p' (m : Int)).map pairD = none) => kn H4 e
            refine ⟨rfl, _, rfl, _, rfl, l, us, (m : Int), v, rfl, rfl, SqL.of (s36 _ _ el), atI_nat ev, ?_⟩
            cases ew : wOf bs ts p' (m : Int) with
            | none =>
              rw [ew] at hv6 kn'
              obtain rfl := hv6.inv_non
              exact ⟨rfl, _, rfl, iteF (kn' _ rfl (Same.refl _))⟩
            | some w =>
              rw [ew] at hv6 kt'
              obtain ⟨T9, rfl, e9⟩ := hv6.pair
              exact ⟨rfl, _, rfl, iteT ⟨_, rfl, _, rfl, l, us, (m : Int), .ref T9, rfl, rfl, SqL.of (s36 _ _ el), atI_nat ev, kt' _ _ _ rfl (Same.refl _) (Thg.span (o := some w) hv6)⟩⟩
          · rw [List.length_map, range_bind, good_spans] at h6
            have s36 := s5.trans s6
            have hps : Prs H6 vs5 ((winsF bs ts p' nb).filterMap id) := by
              rw [es] at h5
              exact (h5.same s6).prs
            refine ⟨D, D2, vs5, vs6, _, _, rfl, s6 _ _ eD, hps, ?_, ?_, eD6, h6.prs, ?_, t5.same s6, hP.f, fun l7 zs H7 nl7 n7 t7 el7 hz7 _ => ?_⟩
            · intro z
              have : (winsF bs ts p' nb).length = 0 := by rw [← el5, z]; rfl
              unfold winsF at this
              rw [List.length_map] at this
              omega
            · rw [el5]
              unfold winsF
              rw [List.length_map]
              omega
            · have := List.length_filterMap_le id (winsF bs ts p' ng)
              unfold winsF at this ⊢
              rw [List.length_map] at this
              omega
            · refine ⟨Nat.zero_le _, fun z1 nz1 => ?_⟩
              have sz := same_upd (o := .lst []) nz1
              refine ⟨_, _, ((hz7.same sz).lst (sz _ _ el7) (by simp)).dp, .lst (SqL.of upd_same) .nil, shaped_row4 _, shaped_ints [], ?_⟩
              rw [eqv_nil4]
              exact q _ (((n3.trans (NoTab.same s36)).trans n7).trans (NoTab.same sz)) (t7.same sz)
end

/-! ### shows_none, of any thing -/
theorem shaped_tx {n : Nat} {z : Str} (h : TxS n z) : SeqAt.shaped (.str z) = true := by
  obtain ⟨l, rfl, _, o⟩ := h
  unfold SeqAt.shaped
  rw [PyData.canLay0, strOk_S o, PyData.depth]
  rfl
theorem place_shaped {bs : List Bat3} {ts : List Tst} (hC : CaseOk bs ts) {p : Str} (h : PlaceP bs p) : SeqAt.shaped (.str p) = true := by
  obtain ⟨B, hB, q, hq, rfl⟩ := h
  have := (hC.bat B hB).2.2.2.2 q hq
  cases q with
  | line p s l b => exact shaped_tx this.1
  | racks p per st => exact shaped_tx this.1
noncomputable def showsAt (bs : List Bat3) (ts : List Tst) (ps : List Str) (ds : List PyData) (i : Nat) : Bool := match ps[i]?, ds[i]? with
  | some p, some t => showsT bs ts p t
  | _, _ => false
def ShowsP (bs : List Bat3) (ts : List Tst) (ps : List Str) (ds : List PyData) : Prop := ds.length = ps.length ∧ ∀ i, i < ps.length → showsAt bs ts ps ds i = true
open Classical in
noncomputable def showsNB (bs : List Bat3) (ts : List Tst) (ps : List Str) (d : PyData) : Bool := match rowOf d with
  | none => false
  | some ds => decide (ShowsP bs ts ps ds)
open Classical in
theorem showsNB_some {bs : List Bat3} {ts : List Tst} {ps : List Str} {d : PyData} {ds : List PyData} (e : rowOf d = some ds) : showsNB bs ts ps d = true ↔ ShowsP bs ts ps ds := by
  unfold showsNB
  rw [e]
  exact decide_eq_true_iff
theorem showsNB_none {bs : List Bat3} {ts : List Tst} {ps : List Str} {d : PyData} (e : rowOf d = none) : showsNB bs ts ps d = false := by
  unfold showsNB
  rw [e]
/-- each row can be compared -/
def ShN (d : PyData) : Prop := ∀ ds, rowOf d = some ds → ∀ t ∈ ds, ShP t
def spShowsN (K : PySem.W.Frag) (Ms : GX.Mq) (Xs : List Addr) (Pf Pn Pr Pb Pt Pz : Addr) : Sp := fun vs H Q _ => ∃ (vb v : V) (L : Addr) (d : PyData) (ys : List V) (bs : List Bat3) (ts : List Tst) (cs : List Addr), vs = [vb, .ref L, v] ∧ Given cs H vb (.ref L) bs ts ∧ CaseOk bs ts ∧ SqH H L ys ∧ ThgL cs H ys (ts.map tstD) ∧ Thg cs H v d ∧ ShN d ∧ GX.TQ Ms Xs H ∧ Tabs5 Ms Pf Pn Pr Pb Pt ∧ Pz ∈ Ms ∧
  ∀ ps H2, GX.NoTab H H2 → GX.TQ Ms Xs H2 → SrtT (PlaceP bs) ps → Q (.bl (showsNB bs ts ps d)) H2
abbrev sShowsN : Stmt := topS 24
theorem scShowsN : FnScope ["batches", "tests", "told", "places", "place", "triple"] ["batches", "tests", "told"] (defScope sShowsN) := ⟨rfl, rfl, rfl, by decide +kernel, rfl, by decide +kernel, by decide +kernel⟩
section
variable {K : PySem.W.Frag} {mg : Str → Option Value} {P : Program} {w : World} {base : Heap} {Pf Pn Pr Pb Pt : Addr}
theorem ok_ShowsN {Ms : GX.Mq} {Xs : List Addr} {f c Pz : Addr} {oc kV doc pm ct : Value} {od an : Option Addr} {osl : Array (Option Value)} (lk : K.lookup f = some ⟨oc, od, .func (PySem.W.fnOf "shows_none" "shows_none" (defArgs sShowsN) (defBody sShowsN) (defScope sShowsN) .none kV doc pm an (.ref c) ct), osl⟩) (hcd : PySem.W.codeIn K (.ref c) "shows_none" = true) (TG : GxR.TabB base mg c Pz) (C_places_passed : Cal P w K mg base 1 "places_passed" ["batches"] (spPassed K)) (C_is_row : Cal P w K mg base 1 "is_row" ["thing"] spIsRow) (C_shows_at : Cal P w K mg base 9 "shows_at" ["batches", "tests", "place", "triple"] (spShowsAt K Ms Xs Pf Pn Pr Pb Pt)) (m_len : mg "len" = none) (m_all : mg "all" = none) (m_zip : mg "zip" = none) : FnOk P w K mg base CX0 13 f (PySem.W.fnOf "shows_none" "shows_none" (defArgs sShowsN) (defBody sShowsN) (defScope sShowsN) .none kV doc pm an (.ref c) ct) ["batches", "tests", "told"] (spShowsN K Ms Xs Pf Pn Pr Pb Pt Pz) := by
  refine fn_of lk hcd scShowsN (fun vs H Q E h => ?_) (fun A outer s H vs Q E hr h => ?_)
  · obtain ⟨vb, v, L, d, ys, bs, ts, cs, rfl, _⟩ := h
    rfl
  · obtain ⟨vb, v, L, d, ys, bs, ts, cs, rfl, hG, hC, hL, hy, hv, hSh, hT, hP, hPz, q⟩ := h
    refine ⟨_, PSs.nox (pss_cons (ps_set (i := 3) scShowsN.nd rfl (.inl rfl) (pe_own C_places_passed (hr.mono (show 1 ≤ 12 by decide)) (by rfl) (pa_cons (pv 0) pa_nil)))
      (pss_cons (ps_if (PW.pt (pw_or (pt_not (pt_val (pe_own C_is_row (hr.mono (show 1 ≤ 12 by decide)) (by rfl) (pa_cons (pv 2) pa_nil)))) (pw_or1 (pt_cmpR op_ne (pe_callB call_len_seq (by rfl) m_len PySem.boot_len (pa_cons (pv 2) pa_nil)) (pe_callB call_len_seq (by rfl) m_len PySem.boot_len (pa_cons (pv 3) pa_nil)) (nomark _))))) (pss_one (ps_ret pe_bl))
        pss_nil)
      (pss_one (ps_ret (GX.pe_allX (k := 9) (own := [("place", 4), ("triple", 5)]) (te := fun code1 => (tCall (spShowsAt K Ms Xs Pf Pn Pr Pb Pt) [] E0 (tCons (tVar 0) (tCons (tVar 1) (tCons (tVar 4) (tCons (tVar 5) tNil)))))) (g' := (gTup K 2 (gCons (gName 4) (gCons (gName 5) gNil)))) (tt := tYes) hr scShowsN.nd (by rfl) m_all TG.bm (pi_zipQ (by rfl) m_zip (pa_cons (pv 3) (pa_cons (pv 2) pa_nil))) (GX.pc_own (Ms := Ms) (Xs := Xs) TG rfl) (GX.gok_by (own := [("place", 4), ("triple", 5)]) (N := ["batches", "tests", "told", "places", "place", "triple"]) (sc := defScope sShowsN) (by decide +kernel)) (fun _ _ _ _ _ r1 gd1 => (pg_tup rfl (pgs_cons (pg_name (i := 4) scShowsN.nd rfl (.inl rfl)) (pgs_cons (pg_name (i := 5) scShowsN.nd rfl (.inl rfl)) pgs_nil)))) (fun _ _ _ _ _ r1 gd1 => pts_nil) (fun _ _ _ code1 _ r1 gd1 => (pe_own C_shows_at r1 (by rfl) (pa_cons (pv 0) (pa_cons (pv 1) (pa_cons (pv 4) (pa_cons (pv 5) pa_nil))))))))))), ?_⟩
    obtain ⟨a, xs, ds, rfl, hA, hx, hB⟩ := hG.bt
    refine ⟨_, rfl, a, xs, ds, bs, cs, rfl, hA, hx, hB, hC.few, fun l2 ps H2 nl2 s2 el2 hps hpz => ?_⟩
    have n2 := NoTab.same s2
    have t2 := hT.same s2
    refine ⟨_, rfl, cs, v, d, rfl, hv.same s2, fun H3 s3 => ⟨_, rfl, ?_⟩⟩
    have s23 := s2.trans s3
    have n3 := NoTab.same s23
    have t3 := hT.same s23
    cases hd : rowOf d with
    | none =>
      have e : showsNB bs ts ps d = false := showsNB_none hd
      have q := q ps H3 n3 t3 hps
      rw [e] at q
      exact iteT (iteT q)
    | some told =>
    have hSh := hSh told hd
    obtain ⟨r, zs, rfl, hR, hz⟩ := (hv.same s23).row hd
    have hzl : zs.length = told.length := hz.1
    refine iteF ⟨_, rfl, r, zs, rfl, hR.imp SqL.of (fun e => .inl (.inl e)), _, rfl, l2, ps.map V.str, rfl, .inl (SqL.of (s3 _ _ el2)), ?_⟩
    rw [hzl, List.length_map]
    refine ⟨rfl, _, rfl, ite2 (fun c => ?_) (fun c => ?_)⟩
    · have e : showsNB bs ts ps d = false := by
        refine Bool.eq_false_iff.mpr fun z => ?_
        have z := (showsNB_some hd).mp z
        rw [z.1] at c
        simp at c
      have q := q ps H3 n3 t3 hps
      rw [e] at q
      exact q
    · have hl : told.length = ps.length := Classical.byContradiction fun z => c (by
        have : ¬ ((told.length : Int) = (ps.length : Int)) := fun h => z (by omega)
        simp [this]
        try omega)
      refine zipq_vars rfl rfl (.inl (s3 _ _ el2)) hR (by rw [hzl, List.length_map, hl]) fun J G wk hGo => ⟨t3, hPz, fun H4 c' P' n4 t4 nX eC tG => GX.turns_all wk (fun i => showsAt bs ts ps told i) (fun Hx => GX.NoTab H3 Hx ∧ GX.TQ Ms Xs Hx) ⟨n4, t4⟩ (fun Hx iv => hGo Hx iv.1) (fun i x Hx Hx' Kt Kn hi iv hyy kt _ => ?_) (fun H5 b iv hb => ?_)⟩
      · obtain ⟨T, x1, x2, rfl, nT, rfl, e1, e2⟩ := hyy
        have e1 : (ps.map V.str)[i]? = some x1 := e1
        have e2 : zs[i]? = some x2 := e2
        rw [List.getElem?_map] at e1
        obtain ⟨p, ep, rfl⟩ := Option.map_eq_some_iff.mp e1
        obtain ⟨t, et, ht⟩ := hz.at e2
        have sT := same_upd (o := .tup [.str p, x2]) nT
        have nx := n3.trans (iv.1.trans (NoTab.same sT))
        have eS : showsAt bs ts ps told i = showsT bs ts p t := by
          unfold showsAt
          rw [ep, et]
        rw [eS] at kt
        exact ⟨T, _, rfl, .inl (.inl upd_same), rfl, _, _, rfl, _, _, rfl, rfl, rfl, _, rfl, _, rfl, _, rfl, _, rfl, .ref a, x2, L, p, t, ys, bs, ts, cs, rfl, hG.noTab nx, hC, hL.noTab nx, hy.noTab nx, ht.noTab (iv.1.trans (NoTab.same sT)), hSh t (List.mem_of_getElem? et), place_shaped hC ((hps.mem p).mp (List.mem_of_getElem? ep)), iv.2.same sT, hP, fun H6 n6 t6 => kt _ ⟨(iv.1.trans (NoTab.same sT)).trans n6, t6⟩⟩
      · have eb : b = showsNB bs ts ps d := by
          rw [Bool.eq_iff_iff, hb, showsNB_some hd, List.length_map]
          exact ⟨fun h => ⟨hl, h⟩, fun h => h.2⟩
        rw [eb]
        exact q ps H5 (n3.trans iv.1) iv.2 hps
end

/-! ### rising windows swept: the gaps of their set -/
def sweepF : Int → List (Int × Int) → List (Int × Option Int)
  | b, [] => [(b, none)]
  | b, w :: r => (if b < w.1 then [(b, some (w.1 - 1))] else []) ++ sweepF (if w.2 + 1 > b then w.2 + 1 else b) r
theorem ris_first {b : Int} {p : Int × Int} {R : List (Int × Int)} {n : Int} (h : Ris b (p :: R)) (hn : InS (p :: R) n) : p.1 ≤ n := by
  obtain ⟨h1, h2, h3⟩ := id h
  rcases inS_cons.mp hn with z | z
  · exact z.1
  · have := h3.low z
    omega
theorem sweep_gaps : ∀ {ws : List (Int × Int)} {b : Int} {R : List (Int × Int)}, (ws.Pairwise fun p q => p.1 ≤ q.1) → (∀ p ∈ ws, p.1 ≤ p.2) → Ris b R → (∀ n, b ≤ n → (InS R n ↔ InS ws n)) → sweepF b ws = gapsO b R
  | [], b, R, _, _, hR, he => by
    cases R with
    | nil => rfl
    | cons p R =>
      obtain ⟨h1, h2, _⟩ := id hR
      exact absurd ((he p.1 h1).mp (inS_cons.mpr (.inl ⟨Int.le_refl _, h2⟩))) inS_nil
  | w :: r, b, R, hs, hw, hR, he => by
    obtain ⟨s1, s2⟩ := List.pairwise_cons.mp hs
    have w12 := hw w (List.mem_cons_self ..)
    have hw' : ∀ p ∈ r, p.1 ≤ p.2 := fun p hp => hw p (List.mem_cons_of_mem _ hp)
    show (if b < w.1 then [(b, some (w.1 - 1))] else []) ++ sweepF (if w.2 + 1 > b then w.2 + 1 else b) r = _
    by_cases c : w.2 < b
    · rw [if_neg (by omega), if_neg (by omega)]
      refine sweep_gaps s2 hw' hR fun n hn => (he n hn).trans ⟨fun z => ?_, fun z => inS_cons.mpr (.inr z)⟩
      rcases inS_cons.mp z with z | z
      · omega
      · exact z
    · rw [if_pos (by omega : w.2 + 1 > b)]
      have hlow : ∀ n, InS (w :: r) n → w.1 ≤ n := fun n z => by
        rcases inS_cons.mp z with z | z
        · exact z.1
        · obtain ⟨q, hq, q1, _⟩ := z
          have := s1 q hq
          omega
      cases R with
      | nil => exact absurd ((he (if b < w.1 then w.1 else b) (by split <;> omega)).mpr (inS_cons.mpr (.inl (by split <;> omega)))) inS_nil
      | cons p R =>
        obtain ⟨h1, h2, h3⟩ := id hR
        have hp1 : p.1 = if b < w.1 then w.1 else b := by
          have a1 := ris_first hR ((he (if b < w.1 then w.1 else b) (by split <;> omega)).mpr (inS_cons.mpr (.inl (by split <;> omega))))
          have a2 := hlow p.1 ((he p.1 h1).mp (inS_cons.mpr (.inl ⟨Int.le_refl _, h2⟩)))
          split at a1 <;> rename_i c1
          · rw [if_pos c1]; omega
          · rw [if_neg c1]; omega
        have hp2 : w.2 ≤ p.2 := Classical.byContradiction fun z => by
          have hn : b ≤ p.2 + 1 := by omega
          have : InS (p :: R) (p.2 + 1) := (he _ hn).mpr (inS_cons.mpr (.inl (by
            split at hp1 <;> omega)))
          rcases inS_cons.mp this with y | y
          · omega
          · have := h3.low y
            omega
        have key : sweepF (w.2 + 1) r = gapsO (p.2 + 1) R := by
          have hin : ∀ n, w.2 + 1 ≤ n → (InS (p :: R) n ↔ InS r n) := fun n hn => (he n (by omega)).trans ⟨fun z => by
            rcases inS_cons.mp z with z | z
            · omega
            · exact z, fun z => inS_cons.mpr (.inr z)⟩
          by_cases e : p.2 = w.2
          · rw [e]
            rw [e] at h3
            refine sweep_gaps s2 hw' (h3.mono (by omega)) fun n hn => ?_
            rw [← hin n hn, inS_cons]
            exact ⟨.inr, fun z => z.resolve_left fun y => by omega⟩
          · have := sweep_gaps (b := w.2 + 1) (R := (w.2 + 1, p.2) :: R) s2 hw' (⟨Int.le_refl _, (by show w.2 + 1 ≤ p.2; omega), h3⟩) fun n hn => ?_
            · rw [this]
              show (if w.2 + 1 < w.2 + 1 then _ else []) ++ gapsO (p.2 + 1) R = _
              rw [if_neg (by omega)]
              rfl
            · rw [← hin n hn, inS_cons, inS_cons]
              refine or_congr_left ⟨fun z => ?_, fun z => ?_⟩
              · have z1 : w.2 + 1 ≤ n := z.1
                have z2 : n ≤ p.2 := z.2
                refine ⟨?_, z2⟩
                split at hp1 <;> omega
              · exact ⟨hn, z.2⟩
        show _ = (if b < p.1 then [(b, some (p.1 - 1))] else []) ++ gapsO (p.2 + 1) R
        rw [key]
        by_cases c2 : b < w.1
        · rw [if_pos c2] at hp1
          rw [if_pos c2, if_pos (by omega), hp1]
        · rw [if_neg c2] at hp1
          rw [if_neg c2, if_neg (by omega)]

/-! ### the law's own gaps -/
theorem sweep_end (b : Int) : ∀ ws : List (Int × Int), ∃ (gs : List (Int × Option Int)) (e : Int), sweepF b ws = gs ++ [(e, none)]
  | [] => ⟨[], b, rfl⟩
  | w :: r => by
    obtain ⟨gs, e, h⟩ := sweep_end (if w.2 + 1 > b then w.2 + 1 else b) r
    exact ⟨(if b < w.1 then [(b, some (w.1 - 1))] else []) ++ gs, e, by rw [List.append_assoc, ← h]; rfl⟩
/-- swept so far: the gaps and where the next one may begin -/
def sweptF (b : Int) (ws : List (Int × Int)) : List (Int × Option Int) × Int := ws.foldl (fun s w => (s.1 ++ (if s.2 < w.1 then [(s.2, some (w.1 - 1))] else []), if w.2 + 1 > s.2 then w.2 + 1 else s.2)) ([], b)
theorem swept_gen : ∀ (ws : List (Int × Int)) (gs : List (Int × Option Int)) (b : Int), let s := ws.foldl (fun s w => (s.1 ++ (if s.2 < w.1 then [(s.2, some (w.1 - 1))] else []), if w.2 + 1 > s.2 then w.2 + 1 else s.2)) (gs, b); s.1 ++ [(s.2, none)] = gs ++ sweepF b ws
  | [], gs, b => rfl
  | w :: r, gs, b => by
    have ih := swept_gen r (gs ++ (if b < w.1 then [(b, some (w.1 - 1))] else [])) (if w.2 + 1 > b then w.2 + 1 else b)
    show _ = gs ++ ((if b < w.1 then [(b, some (w.1 - 1))] else []) ++ sweepF (if w.2 + 1 > b then w.2 + 1 else b) r)
    rw [← List.append_assoc]
    exact ih
def spLGaps : Sp := fun vs H Q _ => ∃ (a : Addr) (us : List V) (ws : List (Int × Int)), vs = [.ref a] ∧ H a = some (.lst us) ∧ Prs H us ws ∧ (∀ p ∈ ws, 0 ≤ p.1 ∧ p.1 ≤ p.2) ∧ ws.length ≤ 900 ∧
  ∀ l zs H', H l = none → Same H H' → H' l = some (.lst zs) → ThgL [] H' zs ((gapsO 0 (setL ws)).map gapD) → Q (.ref l) H'
abbrev sLGaps : Stmt := topS 37
theorem scLGaps : FnScope ["_law_windows", "_law_found", "_law_begin", "_law_first", "_law_last"] ["_law_windows"] (defScope sLGaps) := ⟨rfl, rfl, rfl, by decide +kernel, rfl, by decide +kernel, by decide +kernel⟩
section
variable {K : PySem.W.Frag} {mg : Str → Option Value} {P : Program} {w : World} {base : Heap}
theorem ok_LGaps {f : Addr} {fd : FuncData} (F : Fun K "_law_gaps" "_law_gaps" sLGaps f fd) (m_sorted : mg "sorted" = none) (m_max : mg "max" = none) : FnOk P w K mg base CX0 1 f fd ["_law_windows"] spLGaps := by
  refine F.ok scLGaps (fun vs H Q E h => ?_) (fun cdv A outer s H vs Q E hr h => ?_)
  · obtain ⟨a, us, ws, rfl, _⟩ := h
    rfl
  · obtain ⟨a, us, ws, rfl, ha, hp, hw, hwl, q⟩ := h
    refine ⟨_, pss_cons (ps_par rfl scLGaps.nd (i := 1) (j := 2) rfl rfl (by decide) rfl rfl (pa_cons (pe_lst pa_nil) (pa_cons pe_int pa_nil)) (by rfl))
      (pss_cons (ps_for PassesOwn.never rfl (pi_list (pe_callB cr_sortedPO (by rfl) m_sorted (by decide +kernel) (pa_cons (pv 0) pa_nil))) (pg_tup rfl (pgs_cons (pg_name (i := 3) scLGaps.nd rfl (.inl rfl)) (pgs_cons (pg_name (i := 4) scLGaps.nd rfl (.inl rfl)) pgs_nil)))
        (Evl.pss_cut (ps_if (pt_cmpR op_gt (pv 3) (pv 2) (nomark _)) (pss_one (ps_expr (pe_bm PySem.F.plainAttrs_list PySem.F.slot_list_append PySem.F.type_list_append mt_append (pv 1) (pa_cons (pe_tup (pa_cons (pv 2) (pa_cons (pe_op op_sub (pv 3) pe_int) pa_nil))) pa_nil))))
          pss_nil)
        (pss_one (ps_set (i := 2) scLGaps.nd rfl (.inl rfl) (pe_callB (call_max2 rfl) (by rfl) m_max (by decide +kernel) (pa_cons (pv 2) (pa_cons (pe_op op_add (pv 4) pe_int) pa_nil)))))))
      (pss_one (ps_ret (pe_op op_cat (pv 1) (pe_lst (pa_cons (pe_tup (pa_cons (pv 2) (pa_cons pe_non pa_nil))) pa_nil)))))), ?_⟩
    refine ⟨Nat.zero_le _, fun F nF => ⟨_, _, rfl, ?_⟩⟩
    have sF := same_upd (o := .lst []) nF
    have ha1 := sF _ _ ha
    have hp1 : Prs (upd H F (.lst [])) us ws := ⟨hp.1, fun i p e => let ⟨x, h1, h2⟩ := hp.2 i p e; ⟨x, h1, sF _ _ h2⟩⟩
    have eF := upd_same (H := H) (a := F) (o := .lst [])
    revert ha1 hp1 eF sF
    generalize upd H F (.lst []) = H1
    intro sF ha1 hp1 eF
    refine ⟨_, rfl, a, us, pairOf H1, rfl, SqL.of ha1, fun x hx => ?_, fun zs g srt stb ng => ?_⟩
    · obtain ⟨i, hi, e⟩ := List.getElem_of_mem hx
      obtain ⟨p, T, _, rfl, eT⟩ := prs_at hp1 (by rw [List.getElem?_eq_getElem hi, e])
      exact ⟨T, rfl, by rw [pairOf_at eT]; exact eT⟩
    have each : ∀ x ∈ zs, ∃ T, x = .ref T ∧ H1 T = some (.tup [.int (pairOf H1 x).1, .int (pairOf H1 x).2]) := fun x hx => by
      obtain ⟨i, hi, e⟩ := List.getElem_of_mem (stb.perm.mem_iff.mp hx)
      obtain ⟨p, T, _, rfl, eT⟩ := prs_at hp1 (by rw [List.getElem?_eq_getElem hi, e])
      exact ⟨T, rfl, by rw [pairOf_at eT]; exact eT⟩
    have hmap : us.map (pairOf H1) = ws := by
      refine List.ext_getElem? fun i => ?_
      rw [List.getElem?_map]
      cases h : us[i]? with
      | none =>
        have : ws[i]? = none := by
          rw [List.getElem?_eq_none_iff] at h ⊢
          rw [← hp1.1]
          exact h
        rw [this]
        rfl
      | some x =>
        obtain ⟨p, T, ep, rfl, eT⟩ := prs_at hp1 h
        rw [ep]
        show some (pairOf H1 (.ref T)) = some p
        rw [pairOf_at eT]
    have hperm : (zs.map (pairOf H1)).Perm ws := hmap ▸ stb.perm.map (pairOf H1)
    have hord : (zs.map (pairOf H1)).Pairwise fun x y => x.1 ≤ y.1 := by
      rw [List.pairwise_map]
      refine srt.imp fun {x y} h => ?_
      have := SrtO.lexB_no.mp h
      omega
    have hzl : zs.length ≤ 900 := by
      rw [stb.perm.length_eq, hp1.1]
      exact hwl
    have sg := same_upd (o := .lst zs) ng
    have eg : upd H1 g (.lst zs) g = some (.lst zs) := upd_same
    have hzT : ∀ (i : Nat) x, zs[i]? = some x → ∃ (p : Int × Int) (T : Addr), (zs.map (pairOf H1))[i]? = some p ∧ x = .ref T ∧ upd H1 g (.lst zs) T = some (.tup [.int p.1, .int p.2]) := fun i x hx => by
      obtain ⟨T, rfl, eT⟩ := each x (List.mem_of_getElem? hx)
      exact ⟨_, T, by rw [List.getElem?_map, hx]; rfl, rfl, sg _ _ eT⟩
    have eF2 := sg _ _ eF
    have sF2 := sF.trans sg
    have nFg : F ≠ g := ne_of_none eF ng
    have hql : (zs.map (pairOf H1)).length = zs.length := List.length_map ..
    revert hperm hord eg hzT eF2 sF2 hql
    generalize zs.map (pairOf H1) = qs
    generalize upd H1 g (.lst zs) = H2
    intro hperm hord eg hzT eF2 sF2 hql
    refine ⟨g, rfl, ⟨_, SqL.of eg⟩, for_list (xs := zs) (fun i σ H4 => ∃ (ms : List V) (y3 y4 : Option V), σ = [some (.ref a), some (.ref F), some (.int (sweptF 0 (qs.take i)).2), y3, y4] ∧ Same H H4 ∧ (∀ b o, b ≠ F → H2 b = some o → H4 b = some o) ∧ H4 F = some (.lst ms) ∧ ThgL [F] H4 ms ((sweptF 0 (qs.take i)).1.map gapD) ∧ ms.length ≤ i) ⟨[], _, _, rfl, sF2, fun b o _ e => e, eF2, ThgL.nil, Nat.le_refl _⟩ (fun i σ H4 _ hP => ?_) (fun i x σ H4 hx hP => ?_) (fun σ H4 hP => ?_)⟩
    · obtain ⟨ms, y3, y4, rfl, s4, k4, eF4, hms, hml⟩ := hP
      exact SqL.of (k4 _ _ nFg.symm eg)
    · obtain ⟨ms, y3, y4, rfl, s4, k4, eF4, hms, hml⟩ := hP
      obtain ⟨w, T, ew, rfl, eT⟩ := hzT i x hx
      have eT4 := k4 _ _ (ne_of eT eF2 (fun z => nomatch z)) eT
      have est : sweptF 0 (qs.take (i + 1)) = ((sweptF 0 (qs.take i)).1 ++ (if (sweptF 0 (qs.take i)).2 < w.1 then [((sweptF 0 (qs.take i)).2, some (w.1 - 1))] else []), if w.2 + 1 > (sweptF 0 (qs.take i)).2 then w.2 + 1 else (sweptF 0 (qs.take i)).2) := by
        unfold sweptF
        rw [List.take_add_one, ew, List.foldl_append]
        rfl
      have hi : i < zs.length := (List.getElem?_eq_some_iff.mp hx).1
      rw [est]
      generalize sweptF 0 (qs.take i) = st at hms ⊢
      refine ⟨T, _, rfl, .inl (.inl eT4), rfl, _, _, rfl, _, _, rfl, rfl, ?_⟩
      refine ⟨fun σ H' => ∃ (ms : List V), σ = [some (.ref a), some (.ref F), some (.int st.2), some (.int w.1), some (.int w.2)] ∧ Same H H' ∧ (∀ b o, b ≠ F → H2 b = some o → H' b = some o) ∧ H' F = some (.lst ms) ∧ ThgL [F] H' ms ((st.1 ++ (if st.2 < w.1 then [(st.2, some (w.1 - 1))] else [])).map gapD) ∧ ms.length ≤ i + 1, ?_, ?_⟩
      · refine ⟨_, rfl, _, rfl, _, _, rfl, rfl, _, rfl, ite2 (fun c => ?_) (fun c => ?_)⟩
        · have c := of_decide_eq_true c
          refine ⟨_, rfl, .inl ⟨rfl, _, SqL.of eF4⟩, _, rfl, _, rfl, _, _, rfl, rfl, (by show 2 ≤ sizeLine; decide), fun T2 nT2 => ?_⟩
          have sT := same_upd (o := .tup [.int st.2, .int (w.1 - 1)]) nT2
          have eF5 := sT _ _ eF4
          have hT2 : Thg [F] (upd H4 T2 (.tup [.int st.2, .int (w.1 - 1)])) (.ref T2) (gapD (st.2, some (w.1 - 1))) := ThgL.tup (.cons (.int _) (.one (.int _))) upd_same
          refine ⟨F, _, _, rfl, rfl, eF5, small1000 (by omega), ms ++ [.ref T2], rfl, fun b o e => ?_, fun b o nb e => ?_, upd_same, ?_, by rw [List.length_append]; show ms.length + 1 ≤ i + 1; omega⟩
          · rw [upd_ne (ne_of_none e nF)]
            exact sT _ _ (s4 _ _ e)
          · rw [upd_ne nb]
            exact sT _ _ (k4 b o nb e)
          · rw [if_pos c, List.map_append]
            exact ((hms.same sT).upd eF5 (by simp)).append (ThgL.one (hT2.upd eF5 (by simp)))
        · have c : ¬ st.2 < w.1 := fun z => c (decide_eq_true z)
          rw [if_neg c, List.append_nil]
          exact ⟨ms, rfl, s4, k4, eF4, hms, by omega⟩
      · rintro σ5 H5 ⟨ms5, rfl, s5, k5, eF5, hms5, hml5⟩
        exact ⟨_, rfl, _, rfl, _, _, rfl, rfl, _, _, rfl, ms5, _, _, rfl, s5, k5, eF5, hms5, hml5⟩
    · obtain ⟨ms, y3, y4, rfl, s4, k4, eF4, hms, hml⟩ := hP
      rw [show qs.take zs.length = qs by rw [← hql, List.take_length]] at hms ⊢
      have told := told_ex ws
      have hR : Ris 0 (setL ws) := told.nneg fun n ⟨p, hp, h1, h2⟩ => by
        have := (hw p hp).1
        omega
      have eg2 : gapsO 0 (setL ws) = (sweptF 0 qs).1 ++ [((sweptF 0 qs).2, none)] := by
        rw [← sweep_gaps hord (fun p hp => (hw p (hperm.mem_iff.mp hp)).2) hR fun n _ => (told.same n).trans ⟨fun ⟨p, hp, h⟩ => ⟨p, hperm.mem_iff.mpr hp, h⟩, fun ⟨p, hp, h⟩ => ⟨p, hperm.mem_iff.mp hp, h⟩⟩]
        exact (swept_gen qs [] 0).symm
      generalize sweptF 0 qs = st at hms eg2 ⊢
      refine ⟨_, rfl, _, rfl, (by show 2 ≤ sizeLine; decide), fun T nT => ⟨(by show 1 ≤ sizeLine; decide), fun Y nY => ?_⟩⟩
      have sT := same_upd (o := .tup [.int st.2, .non]) nT
      have sY := same_upd (o := .lst [V.ref T]) nY
      refine ⟨F, Y, ms, [.ref T], rfl, rfl, (sT.trans sY) _ _ eF4, upd_same, ?_, fun l nl => ?_⟩
      · have h9 : 1000 ≤ sizeLine := by decide
        show ms.length + 1 ≤ sizeLine
        omega
      · have sl := same_upd (o := .lst (ms ++ [V.ref T])) nl
        have S := (sT.trans sY).trans sl
        have hT2 : Thg [] (upd (upd (upd H4 T (.tup [.int st.2, .non])) Y (.lst [V.ref T])) l (.lst (ms ++ [V.ref T]))) (.ref T) (gapD (st.2, none)) := ThgL.tup (.cons (.int _) (.one .non)) ((sY.trans sl) _ _ upd_same)
        refine q l _ _ ?_ (s4.trans S) upd_same ?_
        · cases e : H l with
          | none => rfl
          | some o =>
            have := (sT.trans sY) _ _ (s4 _ _ e)
            rw [nl] at this
            cases this
        · rw [eg2, List.map_append]
          exact ((hms.same S).less (cs' := []) (fun _ z => nomatch z)).append (ThgL.one hT2)
end

/-! ### some gap fits -/
def spLFits : Sp := fun vs H Q _ => ∃ (a b : Addr) (us zs : List V) (ps gs : List (Int × Int)), vs = [.ref a, .ref b] ∧ H a = some (.lst us) ∧ Prs H us ps ∧ ps ≠ [] ∧ ps.length ≤ 900 ∧ H b = some (.lst zs) ∧ Prs H zs gs ∧ (∀ p ∈ gs, 0 ≤ p.1 ∧ p.1 ≤ p.2) ∧ gs.length ≤ 900 ∧
  ∀ H', Same H H' → Q (.bl (!(faultF ps gs).isEmpty)) H'
abbrev sLFits : Stmt := topS 38
theorem scLFits : FnScope ["_law_windows_bad", "_law_windows_good", "_law_first", "_law_last", "_law_least", "_law_greatest"] ["_law_windows_bad", "_law_windows_good"] (defScope sLFits) := ⟨rfl, rfl, rfl, by decide +kernel, rfl, by decide +kernel, by decide +kernel⟩
section
variable {K : PySem.W.Frag} {mg : Str → Option Value} {P : Program} {w : World} {base : Heap}
theorem ok_LFits {f : Addr} {fd : FuncData} (F : Fun K "_law_fits" "_law_fits" sLFits f fd) (C__law_gaps : Cal P w K mg base 1 "_law_gaps" ["_law_windows"] spLGaps) (m_min : mg "min" = none) (m_max : mg "max" = none) : FnOk P w K mg base CX0 2 f fd ["_law_windows_bad", "_law_windows_good"] spLFits := by
  refine F.ok scLFits (fun vs H Q E h => ?_) (fun cdv A outer s H vs Q E hr h => ?_)
  · obtain ⟨a, b, us, zs, ps, gs, rfl, _⟩ := h
    rfl
  · obtain ⟨a, b, us, zs, ps, gs, rfl, ha, hp, hne, hpl, hb, hg, hgo, hgl, q⟩ := h
    refine ⟨_, pss_cons (ps_par rfl scLFits.nd (i := 4) (j := 5) rfl rfl (by decide) rfl rfl (pa_cons (pe_callB (cr_min rfl) (by rfl) m_min (by decide +kernel) (pa_cons (pe_lc (own := [("_law_first", 2), ("_law_last", 3)]) (g := (gTup K 2 (gCons (gName 2) (gCons (gName 3) gNil)))) (tt := tYes) (te := (tVar 3)) rfl scLFits.nd (pi_list (pv 0)) (blkOk_by (own := [("_law_first", 2), ("_law_last", 3)]) (N := ["_law_windows_bad", "_law_windows_good", "_law_first", "_law_last", "_law_least", "_law_greatest"]) (sc := defScope sLFits) (by decide +kernel)) (fun _ _ _ _ _ => (pg_tup rfl (pgs_cons (pg_name (i := 2) scLFits.nd rfl (.inl rfl)) (pgs_cons (pg_name (i := 3) scLFits.nd rfl (.inl rfl)) pgs_nil)))) (fun _ _ _ _ _ => pts_nil) (fun _ _ _ _ _ => (pv 3))) pa_nil)) (pa_cons (pe_callB (cr_max rfl) (by rfl) m_max (by decide +kernel) (pa_cons (pe_lc (own := [("_law_first", 2), ("_law_last", 3)]) (g := (gTup K 2 (gCons (gName 2) (gCons (gName 3) gNil)))) (tt := tYes) (te := (tVar 2)) rfl scLFits.nd (pi_list (pv 0)) (blkOk_by (own := [("_law_first", 2), ("_law_last", 3)]) (N := ["_law_windows_bad", "_law_windows_good", "_law_first", "_law_last", "_law_least", "_law_greatest"]) (sc := defScope sLFits) (by decide +kernel)) (fun _ _ _ _ _ => (pg_tup rfl (pgs_cons (pg_name (i := 2) scLFits.nd rfl (.inl rfl)) (pgs_cons (pg_name (i := 3) scLFits.nd rfl (.inl rfl)) pgs_nil)))) (fun _ _ _ _ _ => pts_nil) (fun _ _ _ _ _ => (pv 2))) pa_nil)) pa_nil)) (by rfl))
      (pss_cons (ps_for PassesOwn.never rfl (pi_list (pe_own C__law_gaps hr (by rfl) (pa_cons (pv 1) pa_nil))) (pg_tup rfl (pgs_cons (pg_name (i := 2) scLFits.nd rfl (.inl rfl)) (pgs_cons (pg_name (i := 3) scLFits.nd rfl (.inl rfl)) pgs_nil)))
        (pss_one (ps_if (PW.pt (pw_and (pt_cmpR op_le (pv 2) (pv 4) (nomark _)) (pw_and1 (PW.pt (pw_or (pt_cmpR op_isN (pv 3) pe_non (nomark _)) (pw_or1 (pt_cmpR op_ge (pv 3) (pv 5) (nomark _)))))))) (pss_one (ps_ret pe_bl))
          pss_nil)))
      (pss_one (ps_ret pe_bl))), ?_⟩
    have hpos : 0 < ps.length := List.length_pos_iff.mpr hne
    refine ⟨_, rfl, a, rfl, ⟨_, SqL.of ha⟩, fun D nD => lc_thg (ps.map fun p => PyData.int p.2) (walk_list (xs := us)) [] nD (by rw [List.length_map]; exact hp.1.symm) (by have := hp.1; omega) (fun H' s => SqL.of (s _ _ ha)) (fun k z d H5 H5' Kt Kn hd s5 hyy kt => ?_) (fun H5 vs5 s5 eD h5 => ?_)⟩
    · obtain ⟨rfl, hx'⟩ := hyy
      obtain ⟨p, T2, ep, rfl, eT2⟩ := prs_at hp hx'
      rw [List.getElem?_map, ep] at hd
      cases hd
      exact ⟨T2, _, rfl, .inl (.inl (s5 _ _ eT2)), rfl, _, _, rfl, _, _, rfl, rfl, rfl, _, rfl, kt _ _ (Same.refl _) (.int _)⟩
    · have h6 : ThgL [D] H5 vs5 ((ps.map (·.2)).map PyData.int) := by
        rw [List.map_map]
        exact h5
      have e6 := h6.ints
      subst e6
      refine ⟨D, _, rfl, SqL.of eD, by rw [List.length_map]; exact hpos, fun fe hfe hle => ?_⟩
      have efe : minL (ps.map (·.2)) = fe := minL_eq hfe hle
      refine ⟨_, rfl, a, rfl, ⟨_, SqL.of (s5 _ _ ha)⟩, fun D2 nD2 => lc_thg (ps.map fun p => PyData.int p.1) (walk_list (xs := us)) [] nD2 (by rw [List.length_map]; exact hp.1.symm) (by have := hp.1; omega) (fun H' s => SqL.of (s _ _ (s5 _ _ ha))) (fun k z d H6 H6' Kt Kn hd s6 hyy kt => ?_) (fun H6 vs6 s6 eD6 h6' => ?_)⟩
      · obtain ⟨rfl, hx'⟩ := hyy
        obtain ⟨p, T2, ep, rfl, eT2⟩ := prs_at hp hx'
        rw [List.getElem?_map, ep] at hd
        cases hd
        exact ⟨T2, _, rfl, .inl (.inl (s6 _ _ (s5 _ _ eT2))), rfl, _, _, rfl, _, _, rfl, rfl, rfl, _, rfl, kt _ _ (Same.refl _) (.int _)⟩
      · have h7 : ThgL [D2] H6 vs6 ((ps.map (·.1)).map PyData.int) := by
          rw [List.map_map]
          exact h6'
        have e7 := h7.ints
        subst e7
        have s56 := s5.trans s6
        refine ⟨D2, _, rfl, SqL.of eD6, by rw [List.length_map]; exact hpos, fun lb hlb hge => ?_⟩
        have elb : maxL (ps.map (·.1)) = lb := maxL_eq hlb hge
        have hg6 : Prs H6 zs gs := ⟨hg.1, fun i p e => let ⟨x, h1, h2⟩ := hg.2 i p e; ⟨x, h1, s56 _ _ h2⟩⟩
        have ef : faultF ps gs = (gapsO 0 (setL gs)).filterMap (rowG fe lb) := by
          unfold faultF
          rw [efe, elb]
        rw [ef] at q
        refine ⟨_, _, rfl, _, rfl, b, zs, gs, rfl, s56 _ _ hb, hg6, hgo, hgl, fun l ws H7 nl s7 el hws => ?_⟩
        have s07 := s56.trans s7
        generalize gapsO 0 (setL gs) = gps at q hws
        refine ⟨l, rfl, ⟨_, SqL.of el⟩, for_list (xs := ws) (fun i σ Hx => ∃ (y2 y3 : Option V), σ = [some (.ref a), some (.ref b), y2, y3, some (.int fe), some (.int lb)] ∧ Hx = H7 ∧ ∀ g ∈ gps.take i, rowG fe lb g = none) ⟨_, _, rfl, rfl, fun g z => nomatch z⟩ (fun i σ Hx _ hP => ?_) (fun i x σ Hx hx hP => ?_) (fun σ Hx hP => ?_)⟩
        · obtain ⟨_, _, rfl, rfl, _⟩ := hP
          exact SqL.of el
        · obtain ⟨y2, y3, rfl, rfl, hno⟩ := hP
          obtain ⟨g, eg, hgx⟩ := hws.atM hx
          have hgm := List.mem_of_getElem? eg
          have hyes : rowG fe lb g ≠ none → (!(gps.filterMap (rowG fe lb)).isEmpty) = true := fun h => by
            cases e : rowG fe lb g with
            | none => exact absurd e h
            | some r =>
              have : r ∈ gps.filterMap (rowG fe lb) := List.mem_filterMap.mpr ⟨g, hgm, e⟩
              cases hh : gps.filterMap (rowG fe lb) with
              | nil => rw [hh] at this; cases this
              | cons => rfl
          have hnx : rowG fe lb g = none → ∀ g' ∈ gps.take (i + 1), rowG fe lb g' = none := fun h g' hg' => by
            rw [List.take_add_one, eg] at hg'
            rcases List.mem_append.mp hg' with z | z
            · exact hno g' z
            · rw [List.mem_singleton.mp z]
              exact h
          obtain ⟨T, xs, rfl, eT, h1⟩ := hgx.tuple
          obtain ⟨x1, xs1, rfl, g1, h2⟩ := h1.inv
          obtain ⟨x2, xs2, rfl, g2, h3⟩ := h2.inv
          have e3 := h3.inv0
          subst e3
          have e1 := g1.inv_int
          subst e1
          refine ⟨T, _, rfl, .inl (.inl eT), rfl, _, _, rfl, _, _, rfl, rfl, ?_⟩
          obtain ⟨s0, o⟩ := g
          have yes : rowG fe lb (s0, o) ≠ none → Q (.bl true) Hx := fun h => by
            have q := q Hx s07
            rw [hyes h] at q
            exact q
          refine ⟨_, rfl, _, rfl, _, _, rfl, rfl, _, rfl, ite2 (fun c => ?_) (fun c => ?_)⟩
          · have c := of_decide_eq_true c
            cases o with
            | none =>
              obtain rfl := g2.inv_non
              refine ⟨_, rfl, rfl, _, rfl, iteT (yes ?_)⟩
              show (if s0 ≤ fe then some _ else none) ≠ none
              rw [if_pos c]
              exact fun z => nomatch z
            | some k =>
              have e2 := Thg.inv_int (i := k) g2
              subst e2
              refine ⟨_, rfl, rfl, _, rfl, iteF ⟨_, rfl, _, rfl, _, _, rfl, rfl, _, rfl, ite2 (fun c2 => yes ?_) (fun c2 => ⟨_, _, rfl, rfl, hnx ?_⟩)⟩⟩
              · have c2 := of_decide_eq_true c2
                show (if s0 ≤ fe ∧ lb ≤ k then some _ else none) ≠ none
                rw [if_pos ⟨c, c2⟩]
                exact fun z => nomatch z
              · show (if s0 ≤ fe ∧ lb ≤ k then some _ else none) = none
                rw [if_neg fun z => c2 (decide_eq_true z.2)]
          · refine iteF ⟨_, _, rfl, rfl, hnx ?_⟩
            have c0 : ¬ s0 ≤ fe := fun z => c (decide_eq_true z)
            cases o with
            | none =>
              show (if s0 ≤ fe then some _ else none) = none
              rw [if_neg c0]
            | some k =>
              show (if s0 ≤ fe ∧ lb ≤ k then some _ else none) = none
              rw [if_neg fun z => c0 z.1]
        · obtain ⟨y2, y3, rfl, rfl, hno⟩ := hP
          have e : gps.filterMap (rowG fe lb) = [] := List.filterMap_eq_nil_iff.mpr fun g hg => hno g (by rw [show ws.length = gps.length by rw [hws.1, List.length_map], List.take_length]; exact hg)
          rw [e] at q
          exact q _ s07
end

/-! ### sorted(set(xs)) of a list of texts -/
namespace StS
open PySem PySem.Spec PyProof.Rows L2
section
variable {P : Program} {w : World} {A : Around} {E : Value → Shared → Prop} {s : Shared}
abbrev setX (w : World) : Obj := { cls := .type "set", dict := none, data := .set #[] 0 (.fresh 0 0 (!w.params.followText "set-order")) }
theorem set_update_texts {I : Addr} {fp wr : List Addr} {G : Array GenState → Array GenState → Prop} {n : Nat} {Pv : Nat → Value → Prop} {St : Nat → Shared → Prop} {R : Result → Shared → Prop}
    (W : WalksS P w A.in1 I fp wr G n Pv St) (S : Addr) (apart : S ∉ fp) (xs : List Str) (hn : n = xs.length) (hb : xs.length + 1 < scanBound) (vals : ∀ i v, Pv i v → ∃ k t, xs[i]? = some k ∧ v = .str k t) :
    ∀ (k i : Nat) (s : Shared), n - i = k → i ≤ n → St i s → (∃ c, c ≤ i ∧ SetS w s.heap S (fun j => decide (j ∈ xs.take i)) c) →
      (∀ s' c, Moved (S :: wr) G s s' → c ≤ n → SetS w s'.heap S (fun j => decide (j ∈ xs)) c → R (.ok (.ret .none)) s') →
      codeAny (model P w) A (.builtin "set.update.loop" ⟨[.ref S, .ref I], []⟩) R s := by
  have off : S ∉ wr := fun h => apart (W.sub _ h)
  have more : ∀ b ∈ wr, b ∈ S :: wr := fun b hb => List.mem_cons_of_mem _ hb
  intro k
  induction k with
  | zero =>
    intro i s left le at_ ⟨c, few, has⟩ fin
    obtain rfl : i = n := by omega
    refine codeAny_builtin F.entry_set_update_loop ?_
    rw [Around.under_plainId F.plain_set_update_loop _]
    show wpAny _ A.in1 (pyNext (.ref I) >>= _) _ _ s
    refine wpAny_bind (W.done s _ _ at_ fun s2 m => ?_)
    show wpAny _ A.in1 (ret Value.none) _ _ s2
    rw [List.take_of_length_le (by omega)] at has
    exact wpAny_pure (fin s2 c (m.mono more) few (has.at fun o e => m.heap S o off e))
  | succ k ih =>
    intro i s left le at_ ⟨c, few, has⟩ fin
    have lt : i < n := by omega
    refine codeAny_builtin F.entry_set_update_loop ?_
    rw [Around.under_plainId F.plain_set_update_loop _]
    show wpAny _ A.in1 (pyNext (.ref I) >>= _) _ _ s
    refine wpAny_bind (W.item i s _ _ lt at_ fun v s2 hv at2 m => ?_)
    obtain ⟨x, u, ex, rfl⟩ := vals i v hv
    have has2 : SetS w s2.heap S (fun j => decide (j ∈ xs.take i)) c := has.at fun o e => m.heap S o off e
    show wpAny _ A.in1 (holding [Value.str x u] (setAdd S (.str x u)) >>= _) _ _ s2
    refine wpAny_bind (wpAny_holding ?_)
    unfold setAdd
    refine wpAny_holding ?_
    refine wpAny_bind ((strKind P w).pyHash (k := x) (isK.mpr rfl) ?_)
    refine add_hashed (s := { s2 with toks := s2.toks + 1 }) has2 (by omega) fun h2 but has3 => ?_
    have has4 : SetS w h2 S (fun j => decide (j ∈ xs.take (i + 1))) (if decide (x ∈ xs.take i) = true then c else c + 1) := has3.congr (fun j => by
      rw [List.take_add_one, ex]
      simp [List.mem_append]) rfl
    have few2 : (if decide (x ∈ xs.take i) = true then c else c + 1) ≤ i + 1 := by
      split <;> omega
    refine wpAny_pure ⟨plainId_quiet F.plain_set_update_loop _, ih (i + 1) _ (by omega) lt (W.frame _ s2 _ _ at2 (Nat.le_succ _) fun b hb o e => ?_) ⟨_, few2, has4⟩ fun s3 c2 m3 few3 has5 => ?_⟩
    · rw [but.2 b (fun h : b = S => apart (by rw [← h]; exact hb))]
      exact e
    · refine fin s3 c2 (Moved.trans W.gtrans ((m.mono more).then_heap (Nat.le_succ _) fun b o hb e => ?_) m3) few3 has5
      rw [but.2 b (fun h : b = S => hb (by rw [h]; exact List.mem_cons_self))]
      exact e
set_option maxRecDepth 100000 in
set_option maxHeartbeats 3200000 in
theorem set_from_texts {from_ : Addr} {vs : Array Value} (txts : List Str) {Qv : Value → Shared → Prop} (calm : A.handled = none) (isl : s.heap.IsList from_ vs) (size_is : vs.size = txts.length) (vals : ∀ (i : Nat) (v : Value), vs[i]? = some v → ∃ k t, txts[i]? = some k ∧ v = .str k t) (few : txts.length + 1 < scanBound)
    (end_ : ∀ (hp' : Heap) (tk c : Nat), SetS w hp' s.heap.objs.size (fun j => decide (j ∈ txts)) c → c ≤ txts.length → (∀ b o, s.heap.get? b = some o → hp'.get? b = some o) → Qv (.ref s.heap.objs.size) { s with heap := hp', toks := tk }) :
    wpAny (model P w) A (call (.type "set") [.ref from_]) Qv E s := by
  obtain ⟨c0, tl0, mro0⟩ := F.called_set.mro
  have made0 := F.called_set.made
  have sub0 := F.called_set.sub
  refine wpAny_call (codeAny_of_tree ?_)
  show wpAny _ _ (callAny (.type "set") _) _ _ _
  refine wpAny_pure ⟨Code.quiet_builtin _ (by decide +kernel), codeAny_builtin F.entry_type_call ?_⟩ -- the type is called
  rw [Around.under_plain (weight_type_call_type "set" [.ref from_] []) rfl]
  have no_type := F.called_set.notType
  have can_make := F.called_set.canCreate
  have checked := F.typeCall_set_1 (.ref from_)
  repeat (any_goals (first | assumption | wp_step | fail))
  refine codeAny_mono (code_set_led1 (.ref from_) (E := E) (Q₁ := fun made st => made = .ref s.heap.objs.size ∧ st = { s with heap := s.heap.push (setX w) }) ⟨rfl, rfl⟩) fun r1 st1 told => ?_
  cases r1 with
  | error e => exact told
  | ok fl =>
    cases fl with
    | ret made =>
      obtain ⟨rfl, rfl⟩ := told
      have here : (s.heap.push (setX w)).get? s.heap.objs.size = some (setX w) := Heap.get?_push_size _ rfl
      have isS : Shared.TypeIs { s with heap := s.heap.push (setX w) } (.ref s.heap.objs.size) "set" := ⟨_, here, rfl⟩
      have look := F.called_set.init.lookup
      have bnd := F.called_set.init.bind (.ref s.heap.objs.size)
      repeat (any_goals (first | assumption | wp_step | fail))
      refine codeAny_mono (codeAny_call_builtin (R := wants (fun r st => r = .none ∧ ∃ hp' tk c, st = { s with heap := hp', toks := tk } ∧ SetS w hp' s.heap.objs.size (fun j => decide (j ∈ txts)) c ∧ c ≤ txts.length ∧ (∀ b o, s.heap.get? b = some o → hp'.get? b = some o)) E) F.called_set.init.plain F.entry_set_init (check_set_init_1 isS ?_)) fun r2 st2 told2 => ?_
      · obtain ⟨ol, got, clsl, nl, datal⟩ := isl
        obtain ⟨ocls, odict, odata, oslots⟩ := ol
        simp only at clsl datal
        subst clsl; subst datal
        have got' : (s.heap.push (setX w)).get? from_ = some { cls := .type "list", dict := odict, data := .seq vs nl, slots := oslots } := Heap.get?_push_of_some _ got
        have sub1 := F.sub_list_set
        have sub2 := F.sub_list_frozenset
        have no_dict : (Value.type "list" == Value.type "dict") = false := by decide
        have isl1 : (s.heap.push (setX w)).IsList from_ vs := ⟨_, got', rfl, nl, rfl⟩
        unfold Builtin.«set.__init__» noKeywords Builtin.Frozenset.updateFrom -- its init
        generalize keepP : pyIter = PI
        wp_walk
        subst keepP
        refine wpAny_pyIter_list isl1 (wpAny_bind (wpAny_runValue ?_))
        have lt0 : from_ < s.heap.objs.size := Heap.lt_size got
        have calm3 : A.in1.in1.in1.handled = none := by simp [calm]
        have ne1 : from_ ≠ (s.heap.push (setX w)).objs.size := by
          rw [Heap.size_push]
          exact Nat.ne_of_lt (Nat.lt_succ_of_lt lt0)
        have apart : s.heap.objs.size ∉ [(s.heap.push (setX w)).objs.size, from_] := by
          rw [Heap.size_push]
          simp only [List.mem_cons, List.mem_singleton, List.not_mem_nil, or_false, not_or] -- both
          exact ⟨Nat.ne_of_lt (Nat.lt_succ_self _), Nat.ne_of_gt lt0⟩
        refine set_update_texts ((Walks.list calm3 _ from_ ne1 vs).toS) s.heap.objs.size apart txts size_is few vals (vs.size - 0) 0 _ (by omega) (Nat.zero_le _) ⟨⟨_, Heap.get?_push_size _ rfl, rfl, rfl⟩, (isl1.push _)⟩ ⟨0, Nat.le_refl 0, new_at (Heap.get?_push_of_some _ here)⟩ ?_
        intro st3 c3 moved le3 set3
        obtain ⟨hp3, g3, d3, tk3, os3⟩ := st3
        obtain rfl : g3 = s.gens := moved.gens
        obtain rfl : d3 = s.drawn := moved.drawn
        obtain rfl : os3 = s.os := moved.os
        show wpAny _ _ _ _ _ _
        refine wpAny_pure ?_
        show wpAny _ _ (ret Value.none) _ _ _
        rw [size_is] at le3
        refine wpAny_pure ⟨rfl, hp3, tk3, c3, rfl, set3, le3, fun b o e => ?_⟩
        have lt1 : b < s.heap.objs.size := Heap.lt_size e
        refine moved.heap b o (fun z => ?_) (Heap.get?_push_of_some _ (Heap.get?_push_of_some _ e))
        rcases List.mem_cons.mp z with z | z
        · exact absurd z (Nat.ne_of_lt lt1)
        · have z' := List.mem_singleton.mp z
          rw [Heap.size_push] at z'
          exact absurd z' (Nat.ne_of_lt (Nat.lt_succ_of_lt lt1))
      · cases r2 with
        | error e => exact told2
        | ok fl2 =>
          cases fl2 with
          | ret r =>
            obtain ⟨rfl, hp', tk, c', rfl, z1, z2, z3⟩ := told2
            repeat (any_goals (first | assumption | wp_step | fail))
            exact end_ _ _ _ z1 z2 z3
          | _ => exact told2.elim
    | _ => exact told.elim
end
/-- sorted(set(xs)) of texts -/
def tSortedSetT (K : PySem.W.Frag) (ta : TE) : TE := fun σ H Q => ta σ H fun x H1 => ∃ (l : Addr) (xs : List Str), x = .ref l ∧ SqL K H1 l (xs.map V.str) ∧ xs.length < 64 ∧ ∀ (ms : List Str) (p : Addr), sortedS ms = true → ms.Nodup → (∀ k, k ∈ ms ↔ k ∈ xs) → H1 p = none → Q (.ref p) (upd H1 p (.lst (ms.map V.str)))
theorem str_its : ∀ {xs : List Str} {us : List Value}, Vals (xs.map V.str) us → us.length = xs.length ∧ ∀ (i : Nat) (v : Value), us[i]? = some v → ∃ k t, xs[i]? = some k ∧ v = .str k t
  | [], _, .nil => ⟨rfl, fun _ _ e => nomatch e⟩
  | x :: xs, _, .cons r t => by
    obtain ⟨k, rfl⟩ := r
    obtain ⟨l, h⟩ := str_its t
    refine ⟨congrArg (· + 1) l, fun i v e => ?_⟩
    cases i with
    | zero => cases e; exact ⟨x, k, rfl, rfl⟩
    | succ i => exact h i v e
theorem pe_sortedSetT {X : Cx} {a : Expr} {ta : TE} {p p2 q pos : Pos} (hg : Gl X "sorted") (hm : X.mg "sorted" = none) (hg2 : Gl X "set") (hm2 : X.mg "set" = none) (ha : PE X a ta) (hc : X.calm = true := by rfl)
    (na : starEach [a] X.env = (false, eval a X.env) :: starEach [] X.env := by rfl) : PE X (.Call (.Name "sorted" p) [.Call (.Name "set" p2) [a] [] q] [] pos) (tSortedSetT X.K ta) := by
  refine ⟨fun pins s σ H Q I h => Call_ (ld_blt I hg hm boot_sorted ?_)⟩
  refine PyProof.Rows.callWith_builtin1 (PyProof.Rows.args_cons (Call_ (ld_blt I hg2 hm2 boot_set ?_)) rfl) rfl rfl
  refine PyProof.Rows.callWith_type1 (PyProof.Rows.args_cons (thn (ha.run pins s σ H _ I h) fun v s1 ⟨x, H1, I1, r1, q1⟩ => PyProof.Rows.args_nil ?_) na) na rfl
  obtain ⟨l, xs, rfl, sq, few, q1⟩ := q1
  cases r1
  obtain ⟨its, r, pl, hz⟩ := I1.list sq
  obtain ⟨z1, z2⟩ := str_its r
  refine set_from_texts xs (I1.ok.hd hc) pl.isList (by simpa using z1) (by simpa using z2) (by unfold scanBound; omega) fun hp' tk c hS le kept => PyProof.Rows.args_nil ?_
  have I2 : Inv X pins σ H1 { s1 with heap := hp', toks := tk } := I1.kept kept
  refine sorted_txts (s := { s1 with heap := hp', toks := tk }) hS (I1.ok.hd hc) (by omega) fun st p out c' ms k g o hp hg' isI up nd mem cnt => ?_
  have len : (ms.map V.str).length ≤ sizeLine := by
    rw [List.length_map, sizeLine_eq]
    omega
  have new : H1 p = none := I2.hok.fresh hp
  have J : Inv X pins σ (upd H1 p (.lst (ms.map V.str))) { ({ s1 with heap := hp', toks := tk } : Shared) with heap := st.heap, gens := st.gens, drawn := st.drawn, toks := st.toks } :=
    I2.call (ch := []) (Un.laid k hp new) (I2.hok.laid k hp ⟨len, out.toList, c', vals_of_strs isI, hg'⟩) (by rw [g]; exact I2.bare) (fun _ z => nomatch z)
  have e : st = { s1 with heap := st.heap, gens := st.gens, drawn := st.drawn, toks := st.toks } := by
    cases st
    cases s1
    cases o
    rfl
  rw [e]
  exact ⟨.ref p, _, J, rfl, q1 ms p up nd (fun k => ⟨fun z => of_decide_eq_true ((mem k).mp z), fun z => (mem k).mpr (decide_eq_true z)⟩) new⟩
end StS

/-! ### the law's own look at batches: places, how far -/
structure Sm8 (bs : List Bat3) : Prop where
  bl : bs.length ≤ 5
  pl : ∀ B ∈ bs, B.pas.length ≤ 5
  tn : ∀ B ∈ bs, B.tins ≤ 24
  en : ∀ B ∈ bs, ∀ p k r, 0 ≤ k → k < B.tins → winF B p k = some r → r.2 < 100
theorem take_len5 {bs : List Bat3} (h : ∀ B ∈ bs, B.pas.length ≤ 5) : (bs.flatMap fun B => B.pas.map Pas3.pl).length ≤ 5 * bs.length := by
  induction bs with
  | nil => exact Nat.zero_le _
  | cons B r ih =>
    have h1 := h B (List.mem_cons_self ..)
    have h2 := ih fun B' hB' => h B' (List.mem_cons_of_mem _ hB')
    rw [List.flatMap_cons, List.length_append, List.length_map, List.length_cons]
    omega

def spLPl (K : PySem.W.Frag) : Sp := fun vs H Q _ => ∃ (a : Addr) (us : List V) (bs : List Bat3) (cs : List Addr), vs = [.ref a] ∧ H a = some (.lst us) ∧ ThgL cs H us (bs.map batD) ∧ Sm8 bs ∧
  ∀ l ps H', H l = none → Same H H' → H' l = some (.lst (ps.map V.str)) → SrtT (PlaceP bs) ps → Q (.ref l) H'
abbrev sLPl : Stmt := topS 36
theorem scLPl : FnScope ["_law_batches_here", "_law_found", "_law_batch", "_law_one"] ["_law_batches_here"] (defScope sLPl) := ⟨rfl, rfl, rfl, by decide +kernel, rfl, by decide +kernel, by decide +kernel⟩
section
variable {K : PySem.W.Frag} {mg : Str → Option Value} {P : Program} {w : World} {base : Heap}
theorem ok_LPl {f : Addr} {fd : FuncData} (F : Fun K "_law_places" "_law_places" sLPl f fd) (m_sorted : mg "sorted" = none) (m_set : mg "set" = none) : FnOk P w K mg base CX0 1 f fd ["_law_batches_here"] (spLPl K) := by
  refine F.ok scLPl (fun vs H Q E h => ?_) (fun cdv A outer s H vs Q E hr h => ?_)
  · obtain ⟨a, us, bs, cs, rfl, _⟩ := h
    rfl
  · obtain ⟨a, us, bs, cs, rfl, ha, hu, hS8, q⟩ := h
    refine ⟨_, pss_cons (ps_set (i := 1) scLPl.nd rfl (.inl rfl) (pe_lst pa_nil))
      (pss_cons (ps_for PassesOwn.never rfl (pi_list (pv 0)) (pg_name (i := 2) scLPl.nd rfl (.inl rfl))
        (pss_one (ps_set (i := 1) scLPl.nd rfl (.inl rfl) (pe_op op_cat (pv 1) (pe_lc (own := [("_law_one", 3)]) (g := (gName 3)) (tt := tYes) (te := (tOp (rIxT K) (tVar 3) (tC (.int 1)))) rfl scLPl.nd (pi_list (pe_ix ix_tup (pv 2) pe_int (fun _ _ => rfl))) (blkOk_by (own := [("_law_one", 3)]) (N := ["_law_batches_here", "_law_found", "_law_batch", "_law_one"]) (sc := defScope sLPl) (by decide +kernel)) (fun _ _ _ _ _ => (pg_name (i := 3) scLPl.nd rfl (.inl rfl))) (fun _ _ _ _ _ => pts_nil) (fun _ _ _ _ _ => (pe_ix ix_tup (pv 3) pe_int (fun _ _ => rfl))))))))
      (pss_one (ps_ret (StS.pe_sortedSetT (by rfl) m_sorted (by rfl) m_set (pv 1))))), ?_⟩
    have hul : us.length = bs.length := by rw [hu.1, List.length_map]
    have hb10 := hS8.bl
    refine ⟨Nat.zero_le _, fun F nF => ?_⟩
    have sF := same_upd (o := .lst []) nF
    refine ⟨_, rfl, a, rfl, ⟨_, SqL.of (sF _ _ ha)⟩, for_list (xs := us) (fun i σ Hx => ∃ (F : Addr) (y2 y3 : Option V), σ = [some (.ref a), some (.ref F), y2, y3] ∧ Same H Hx ∧ Hx F = some (.lst (((bs.take i).flatMap fun B => B.pas.map Pas3.pl).map V.str))) ⟨F, _, _, rfl, sF, upd_same⟩ (fun i σ Hx _ hP => ?_) (fun i x σ Hx hx hP => ?_) (fun σ Hx hP => ?_)⟩
    · obtain ⟨F, y2, y3, rfl, sm, eF⟩ := hP
      exact SqL.of (sm _ _ ha)
    · obtain ⟨F, y2, y3, rfl, sm, eF⟩ := hP
      obtain ⟨B, eB, hB⟩ := hu.atM hx
      have hi := (List.getElem?_eq_some_iff.mp eB).1
      have hBm := List.mem_of_getElem? eB
      have hpl := hS8.pl B hBm
      obtain ⟨c, p, xs, rfl, ec, ep, _, hxs⟩ := (hB.same sm).batL
      have hxl : xs.length = B.pas.length := by rw [hxs.1, List.length_map]
      refine ⟨_, rfl, _, rfl, c, _, 2, _, rfl, rfl, .inl (.inl ec), atI_nat (j := 2) rfl, p, rfl, ⟨_, SqL.of ep⟩, fun D nD => ?_⟩
      refine lc_thg (B.pas.map fun q => PyData.str q.pl) (walk_list (xs := xs)) [] nD (by rw [List.length_map, hxl]) (by omega) (fun H' s => SqL.of (s _ _ ep)) (fun j x d H2 H2' Kt Kn ed s2 hyy kk => ?_) (fun H2 zs s2 e2 h2 => ?_)
      · obtain ⟨rfl, hx2⟩ := hyy
        obtain ⟨q0, eq, hq⟩ := hxs.atM hx2
        rw [List.getElem?_map, eq] at ed
        cases ed
        obtain ⟨a1, x1, r1, rfl, e1, _⟩ := (hq.same s2).pas
        exact ⟨rfl, _, rfl, a1, _, 1, _, rfl, rfl, .inl (.inl e1), atI_nat (j := 1) rfl, kk _ _ (Same.refl _) (.str _)⟩
      · have ez : zs = (B.pas.map Pas3.pl).map V.str := ThgL.strs (cs := [D]) (H := H2) (by rw [List.map_map]; exact h2)
        subst ez
        have l5 := take_len5 (bs := bs.take i) fun B' hB' => hS8.pl B' (List.mem_of_mem_take hB')
        rw [List.length_take] at l5
        refine ⟨F, D, _, _, rfl, rfl, s2 _ _ eF, e2, Nat.le_trans (show _ ≤ 1000 by rw [List.length_map, List.length_map, List.length_map]; omega) (by decide), fun F2 nF2 => ⟨F2, _, _, rfl, (sm.trans s2).trans (same_upd nF2), ?_⟩⟩
        rw [upd_same, List.take_add_one, eB, List.flatMap_append, List.map_append]
        simp
    · obtain ⟨F, y2, y3, rfl, sm, eF⟩ := hP
      rw [hul, List.take_length] at eF
      have l5 := take_len5 hS8.pl
      refine ⟨_, rfl, F, _, rfl, SqL.of eF, by omega, fun ms p up nd mem np => q p ms _ (sm.free np) (sm.trans (same_upd np)) upd_same ⟨up, nd, fun x => (mem x).trans ?_⟩⟩
      rw [List.mem_flatMap]
      exact ⟨fun ⟨B, hB, h⟩ => let ⟨q', h1, h2⟩ := List.mem_map.mp h; ⟨B, hB, q', h1, h2⟩, fun ⟨B, hB, q', h1, h2⟩ => ⟨B, hB, List.mem_map.mpr ⟨q', h1, h2⟩⟩⟩
end

theorem sm8_of {bs : List Bat3} (hl : bs.length ≤ 5) (h : ∀ B ∈ bs, BatOk B ∧ B.tins ≤ 8 ∧ B.pas.length ≤ 5 ∧ ∀ q ∈ B.pas, PasSm q) : Sm8 bs := by
  refine ⟨hl, fun B hB => (h B hB).2.2.1, fun B hB => by have := (h B hB).2.1; omega, fun B hB p k r k0 k1 e => ?_⟩
  obtain ⟨ho, ht, _, hs⟩ := h B hB
  unfold winF passF at e
  cases e2 : B.pas.find? fun q' => decide (q'.pl = p) with
  | none => rw [e2] at e; cases e
  | some q' =>
    rw [e2] at e
    have hq := List.mem_of_find?_eq_some e2
    have h1 := hs q' hq
    have h2 := ho.2.2.2.2 q' hq
    cases q' with
    | line p' s l b =>
      have e : some (s + k * l / b, s + k * l / b) = some r := e
      cases e
      obtain ⟨h3, h4⟩ : s ≤ 20 ∧ l ≤ 3 := h1
      obtain ⟨_, h5, h6, h7, h8, h9, h10⟩ := h2
      show s + k * l / b < 100
      have a1 : k * l ≤ 8 * 3 := Int.mul_le_mul (by omega) h4 h7 (by omega)
      have a2 : 0 ≤ k * l := Int.mul_nonneg k0 h7
      have a3 : k * l / b ≤ k * l := Int.ediv_le_self _ a2
      omega
    | racks p' per st =>
      have e : st[(k / per).toNat]? = some r := e
      exact h1 r (List.mem_of_getElem? e)

/-! ### the law's own look at texts and numbers, of any thing -/
def strB (d : PyData) (y : Str) : Bool := match d with
  | .str x => decide (x = y)
  | _ => false
def spLTxt : Sp := fun vs H Q _ => ∃ (c : List Addr) (v : V) (d : PyData) (y : Str), vs = [v, .str y] ∧ Thg c H v d ∧ Q (.bl (strB d y)) H
abbrev sLTxt : Stmt := topS 39
theorem scLTxt : FnScope ["_law_thing", "_law_text"] ["_law_thing", "_law_text"] (defScope sLTxt) := ⟨rfl, rfl, rfl, by decide +kernel, rfl, by decide +kernel, by decide +kernel⟩
section
variable {K : PySem.W.Frag} {mg : Str → Option Value} {P : Program} {w : World} {base : Heap}
theorem ok_LTxt {f : Addr} {fd : FuncData} (F : Fun K "_law_text_is" "_law_text_is" sLTxt f fd) (m_isinstance : mg "isinstance" = none) (m_str : mg "str" = none) : FnOk P w K mg base CX0 1 f fd ["_law_thing", "_law_text"] spLTxt := by
  refine F.ok scLTxt (fun vs H Q E h => ?_) (fun cdv A outer s H vs Q E hr h => ?_)
  · obtain ⟨c0, v, d, y, rfl, _⟩ := h
    rfl
  · obtain ⟨c0, v, d, y, rfl, hv, q⟩ := h
    refine ⟨_, pss_one (ps_ret (pe_and (pe_callB call_isi (by rfl) m_isinstance (by decide +kernel) (pa_cons (pv 0) (pa_cons (pe_bltn (v := .ty "str") (by rfl) m_str (by decide +kernel) rfl) pa_nil))) (pe_one (pe_cmpR op_eq (pv 0) (pv 1) (nomark _))))), ?_⟩
    obtain ⟨t, h1, h2⟩ := isi_str (K := K) hv
    refine ⟨_, rfl, _, _, t, _, _, rfl, .ty _, h1, h2, _, rfl, ?_⟩
    cases hv with
    | str x =>
      refine iteT ⟨_, rfl, _, rfl, rfl, ?_⟩
      have e : decide (V.str x = V.str y) = decide (x = y) := by simp
      rw [e]
      exact q
    | tup e l k => exact iteF q
    | lst e n l k => exact iteF q
    | non => exact iteF q
    | bl b => exact iteF q
    | int i => exact iteF q
end
def inW (m : Int) : PyData → Bool
  | .int i => decide (0 ≤ i) && decide (i < m)
  | _ => false
theorem inc_ext {a b : List Int} (ha : a.Pairwise (· < ·)) (hb : b.Pairwise (· < ·)) (h : ∀ k, k ∈ a ↔ k ∈ b) : a = b := by
  induction a generalizing b with
  | nil =>
    cases b with
    | nil => rfl
    | cons y r => exact absurd ((h y).mpr (List.mem_cons_self ..)) (fun z => nomatch z)
  | cons x r ih =>
    cases b with
    | nil => exact absurd ((h x).mp (List.mem_cons_self ..)) (fun z => nomatch z)
    | cons y s =>
      obtain ⟨h1, h2⟩ := List.pairwise_cons.mp ha
      obtain ⟨h3, h4⟩ := List.pairwise_cons.mp hb
      have exy : x = y := by
        rcases List.mem_cons.mp ((h x).mp (List.mem_cons_self ..)) with z | z
        · exact z
        · rcases List.mem_cons.mp ((h y).mpr (List.mem_cons_self ..)) with z2 | z2
          · exact z2.symm
          · have := h1 y z2
            have := h3 x z
            omega
      subst exy
      rw [ih h2 h4 fun k => ⟨fun hk => by
        rcases List.mem_cons.mp ((h k).mp (List.mem_cons_of_mem _ hk)) with z | z
        · subst z
          have := h1 k hk
          omega
        · exact z, fun hk => by
        rcases List.mem_cons.mp ((h k).mpr (List.mem_cons_of_mem _ hk)) with z | z
        · subst z
          have := h3 k hk
          omega
        · exact z⟩]
theorem ints_of_inW {m : Int} : ∀ {ds : List PyData}, ds.all (inW m) = true → ∃ ns : List Int, ds = ns.map PyData.int ∧ (∀ n ∈ ns, 0 ≤ n ∧ n < m)
  | [], _ => ⟨[], rfl, fun _ z => nomatch z⟩
  | d :: ds, h => by
    rw [List.all_cons, Bool.and_eq_true] at h
    obtain ⟨ns, rfl, hn⟩ := ints_of_inW h.2
    cases d with
    | int i =>
      have h1 := h.1
      have h1 : (decide (0 ≤ i) && decide (i < m)) = true := h1
      rw [Bool.and_eq_true, decide_eq_true_eq, decide_eq_true_eq] at h1
      exact ⟨i :: ns, rfl, fun n hn' => (List.mem_cons.mp hn').elim (fun z => z ▸ h1) (hn n)⟩
    | _ => exact absurd h.1 (by simp [inW])
theorem eqv_intsB (a b : List Int) : PyData.eqv (PyData.list (a.map PyData.int)) (PyData.list (b.map PyData.int)) = decide (a = b) := by
  simp only [PyData.eqv]
  induction a generalizing b with
  | nil => cases b <;> simp [PyData.eqvAll]
  | cons x r ih =>
    cases b with
    | nil => simp [PyData.eqvAll]
    | cons y s =>
      rw [List.map_cons, List.map_cons, PyData.eqvAll, ih s]
      by_cases e : x = y <;> by_cases e2 : r = s <;> simp [PyData.eqv, e, e2]
theorem numsOf_all {ds : List PyData} {d : PyData} (e : rowOf d = some ds) {m : Int} (h : ds.all (inW m) = false) {ts : List Tst} (hm : m = ts.length) {b : Bool} : testsB ts d b = false := by
  cases hn : numsOf d with
  | none => unfold testsB; rw [hn]
  | some ns =>
    unfold testsB
    rw [hn]
    cases hb : belB d ts.length with
    | false => simp [hb]
    | true =>
      exfalso
      unfold belB at hb
      rw [hn] at hb
      have hb : (incB ns && ns.all (fun x => decide (x < (ts.length : Int)))) = true := hb
      have h2 := (Bool.and_eq_true_iff.mp hb).2
      unfold numsOf at hn
      rw [e] at hn
      have hn : (if ds.all isNumD then some (ds.map intD) else none) = some ns := hn
      by_cases hd : ds.all isNumD = true
      · rw [if_pos hd] at hn
        cases hn
        have : ds.all (inW m) = true := by
          rw [List.all_eq_true] at hd ⊢
          intro x hx
          obtain ⟨i, rfl, i0⟩ := isNumD_int (hd x hx)
          have := List.all_eq_true.mp h2 (intD (.int i)) (List.mem_map.mpr ⟨_, hx, rfl⟩)
          have := of_decide_eq_true this
          show (decide (0 ≤ i) && decide (i < m)) = true
          rw [decide_eq_true i0, decide_eq_true (by rw [hm]; exact this)]
          rfl
        rw [this] at h
        cases h
      · rw [if_neg hd] at hn
        cases hn
theorem testsB_ints {d : PyData} {ns : List Int} (e : rowOf d = some (ns.map PyData.int)) {ts : List Tst} (h : ∀ n ∈ ns, 0 ≤ n ∧ n < (ts.length : Int)) {b : Bool} : testsB ts d b = (incB ns && ns.all (wordB ts b)) := by
  have en : numsOf d = some ns := by
    unfold numsOf
    rw [e]
    show (if (ns.map PyData.int).all isNumD then some ((ns.map PyData.int).map intD) else none) = some ns
    rw [if_pos (List.all_eq_true.mpr fun d hd => by
      obtain ⟨x, hx, rfl⟩ := List.mem_map.mp hd
      exact decide_eq_true (h x hx).1), List.map_map]
    congr 1
    exact List.map_id _
  unfold testsB
  rw [en]
  have eb : belB d ts.length = incB ns := by
    unfold belB
    rw [en]
    show (incB ns && ns.all (fun x => decide (x < (ts.length : Int)))) = incB ns
    rw [List.all_eq_true.mpr fun x hx => decide_eq_true (h x hx).2, Bool.and_true]
  rw [eb]
def spLNums : Sp := fun vs H Q _ => ∃ (L : Addr) (v : V) (d : PyData) (ys : List V) (ts : List Tst) (cs c : List Addr) (b : Bool), vs = [.ref L, v, .str (wordD b)] ∧ H L = some (.lst ys) ∧ ThgL cs H ys (ts.map tstD) ∧ Thg c H v d ∧ (∀ ds, rowOf d = some ds → ds.length ≤ 3000) ∧
  ∀ H', Same H H' → Q (.bl (testsB ts d b)) H'
abbrev sLNums : Stmt := topS 40
theorem scLNums : FnScope ["_law_tests_here", "_law_thing", "_law_word", "_law_one"] ["_law_tests_here", "_law_thing", "_law_word"] (defScope sLNums) := ⟨rfl, rfl, rfl, by decide +kernel, rfl, by decide +kernel, by decide +kernel⟩
section
variable {K : PySem.W.Frag} {mg : Str → Option Value} {P : Program} {w : World} {base : Heap}
theorem ok_LNums {f : Addr} {fd : FuncData} (F : Fun K "_law_numbers" "_law_numbers" sLNums f fd) (m_tuple : mg "tuple" = none) (m_list : mg "list" = none) (m_isinstance : mg "isinstance" = none) (m_int : mg "int" = none) (m_bool : mg "bool" = none) (m_len : mg "len" = none) (m_all : mg "all" = none) (m_sorted : mg "sorted" = none) (m_set : mg "set" = none) : FnOk P w K mg base CX0 1 f fd ["_law_tests_here", "_law_thing", "_law_word"] spLNums := by
  refine F.ok scLNums (fun vs H Q E h => ?_) (fun cdv A outer s H vs Q E hr h => ?_)
  · obtain ⟨L, v, d, ys, ts, cs, c0, b, rfl, _⟩ := h
    rfl
  · obtain ⟨L, v, d, ys, ts, cs, c0, b, rfl, hL, hy, hv, hdl, q⟩ := h
    refine ⟨_, pss_cons (ps_if (pt_not (pt_val (pe_callB call_isiT (by rfl) m_isinstance (by decide +kernel) (pa_cons (pv 1) (pa_cons (pe_tup (pa_cons (pe_bltn (v := .ty "list") (by rfl) m_list (by decide +kernel) rfl) (pa_cons (pe_bltn (v := .ty "tuple") (by rfl) m_tuple (by decide +kernel) rfl) pa_nil))) pa_nil))))) (pss_one (ps_ret pe_bl))
        pss_nil)
      (pss_cons (ps_if (pt_not (pt_val (pe_callB (cr_all rfl) (by rfl) m_all (by decide +kernel) (pa_cons (pe_lc (own := [("_law_one", 3)]) (g := (gName 3)) (tt := tYes) (te := (tAndV (tCB (rIsi K) (tCons (tVar 3) (tCons (tC (.ty "int")) tNil))) (tAndV (tNotV (tCB (rIsi K) (tCons (tVar 3) (tCons (tC (.ty "bool")) tNil)))) (tChain (rI0 fun i j => .bl (decide (i ≤ j))) (rI0 fun i j => .bl (decide (i < j))) (tC (.int 0)) (tVar 3) (tCB (fun xs H Q => ∃ p ys, xs = [.ref p] ∧ (SqL K H p ys ∨ SqT K H p ys) ∧ Q (.int ys.length) H) (tCons (tVar 0) tNil)))))) rfl scLNums.nd (pi_seq (pv 1)) (blkOk_by (own := [("_law_one", 3)]) (N := ["_law_tests_here", "_law_thing", "_law_word", "_law_one"]) (sc := defScope sLNums) (by decide +kernel)) (fun _ _ _ _ _ => (pg_name (i := 3) scLNums.nd rfl (.inl rfl))) (fun _ _ _ _ _ => pts_nil) (fun _ _ _ _ _ => (pe_and (pe_callB call_isi (by rfl) m_isinstance (by decide +kernel) (pa_cons (pv 3) (pa_cons (pe_bltn (v := .ty "int") (by rfl) m_int (by decide +kernel) rfl) pa_nil))) (pe_and (pe_not (pe_callB call_isi (by rfl) m_isinstance (by decide +kernel) (pa_cons (pv 3) (pa_cons (pe_bltn (v := .ty "bool") (by rfl) m_bool (by decide +kernel) rfl) pa_nil)))) (pe_one (pe_chain op_le op_lt pe_int (pv 3) (pe_callB call_len_seq (by rfl) m_len PySem.boot_len (pa_cons (pv 0) pa_nil)))))))) pa_nil)))) (pss_one (ps_ret pe_bl))
        pss_nil)
      (pss_one (ps_ret (pe_and (pe_cmpR (op_eqD hr.units) (pe_callTy call_list_of (by rfl) m_list (by decide +kernel) (pa_cons (pv 1) pa_nil)) (pe_sortedSetQ (by rfl) m_sorted (by rfl) m_set (pv 1)) (nomark _)) (pe_one (pe_callB (cr_all rfl) (by rfl) m_all (by decide +kernel) (pa_cons (pe_lc (own := [("_law_one", 3)]) (g := (gName 3)) (tt := tYes) (te := (tOp (rEq) (tOp (rIxT K) (tOp (rIxL K) (tVar 0) (tVar 3)) (tC (.int 2))) (tVar 2))) rfl scLNums.nd (pi_seq (pv 1)) (blkOk_by (own := [("_law_one", 3)]) (N := ["_law_tests_here", "_law_thing", "_law_word", "_law_one"]) (sc := defScope sLNums) (by decide +kernel)) (fun _ _ _ _ _ => (pg_name (i := 3) scLNums.nd rfl (.inl rfl))) (fun _ _ _ _ _ => pts_nil) (fun _ _ _ _ _ => (pe_cmpR op_eq (pe_ix ix_tup (pe_ix ix_list (pv 0) (pv 3) (fun _ _ => rfl)) pe_int (fun _ _ => rfl)) (pv 2) (nomark _)))) pa_nil))))))), ?_⟩
    have z63 := sizeLine_eq
    have hyl : ys.length = ts.length := by rw [hy.1, List.length_map]
    have q0 : testsB ts d b = false → ∀ H', Same H H' → Q (.bl false) H' := fun e H' s => by rw [← e]; exact q H' s
    refine ⟨_, rfl, (by show 2 ≤ sizeLine; decide), fun p np => ?_⟩
    have sp : Same H (upd H p (.tup [.ty "list", .ty "tuple"])) := same_upd np
    have ep : upd H p (.tup [.ty "list", .ty "tuple"]) p = some (.tup [.ty "list", .ty "tuple"]) := upd_same
    generalize upd H p (.tup [.ty "list", .ty "tuple"]) = H1 at sp ep
    obtain ⟨tx, g1, g2⟩ := isi_row (K := K) (hv.same sp)
    refine ⟨v, p, _, tx, _, _, rfl, ep, .cons (.ty _) (.cons (.ty _) .nil), g1, g2, _, rfl, ?_⟩
    cases hr' : rowOf d with
    | none => exact iteT (q0 (by unfold testsB numsOf; rw [hr']) _ sp)
    | some ds =>
    obtain ⟨X, xs, rfl, hX, hl⟩ := hv.row hr'
    have hdl := hdl ds hr'
    have lxs := hl.1
    refine iteF ⟨_, rfl, X, rfl, iseq_lc (hX.noTab (NoTab.same sp)) fun J G wk hG D nD => lc_mapW V.bl (fun i => inW ts.length (ds.getD i .none)) wk nD (by omega) (fun H' s' => hG H' (NoTab.same s')) (fun j x2 H4 H4' Kt Kn hj s4 hy2 k => ?_) (fun H4 s4 eD => ?_)⟩
    · obtain ⟨rfl, hx2⟩ := hy2
      have hj' : j < ds.length := by omega
      have ed : ds[j]? = some ds[j] := List.getElem?_eq_getElem hj'
      have eg : ds.getD j .none = ds[j] := by rw [List.getD_eq_getElem?_getD, ed]; rfl
      rw [eg] at k
      have hx := ((hl.2 j x2 _ hx2 ed).same sp).same s4
      obtain ⟨t1, f1, f2⟩ := isi_int (K := K) hx
      obtain ⟨t2, f3, f4⟩ := isi_bool (K := K) hx
      have eL4 : H4' L = some (.lst ys) := s4 _ _ (sp _ _ hL)
      have kf : inW ts.length ds[j] = false → Kt (.bl false) H4' := fun e => by
        have := k H4' (Same.refl _)
        rw [e] at this
        exact this
      refine ⟨rfl, _, rfl, _, _, t1, _, _, rfl, .ty _, f1, f2, _, rfl, ?_⟩
      cases hdj : ds[j] with
      | int n =>
        rw [hdj] at hx f2 f4 k
        obtain rfl := hx.inv_int
        refine iteT ⟨_, rfl, _, _, t2, _, _, rfl, .ty _, f3, f4, _, rfl, _, rfl, iteT ⟨_, rfl, _, _, rfl, rfl, _, rfl, ite2 (fun c1 => ⟨_, rfl, L, ys, rfl, .inl (SqL.of eL4), _, _, rfl, rfl, ?_⟩) (fun c1 => ?_)⟩⟩
        · have c1 := of_decide_eq_true c1
          have := k H4' (Same.refl _)
          rw [hyl]
          have e : inW (ts.length : Int) (.int n) = decide (n < (ts.length : Int)) := by
            show (decide (0 ≤ n) && decide (n < (ts.length : Int))) = _
            rw [decide_eq_true c1, Bool.true_and]
          rw [e] at this
          exact this
        · refine kf ?_
          rw [hdj]
          show (decide (0 ≤ n) && decide (n < (ts.length : Int))) = _
          rw [decide_eq_false (fun z => c1 (decide_eq_true z)), Bool.false_and]
      | bool b' =>
        rw [hdj] at f2 f4
        exact iteT ⟨_, rfl, _, _, t2, _, _, rfl, .ty _, f3, f4, _, rfl, _, rfl, iteF (kf (by rw [hdj]; rfl))⟩
      | none => rw [hdj] at f2; exact iteF (kf (by rw [hdj]; rfl))
      | str z => rw [hdj] at f2; exact iteF (kf (by rw [hdj]; rfl))
      | list z => rw [hdj] at f2; exact iteF (kf (by rw [hdj]; rfl))
      | tuple z => rw [hdj] at f2; exact iteF (kf (by rw [hdj]; rfl))
      | dict z => rw [hdj] at hx; cases hx
    · have eall : (((List.range xs.length).map fun i => inW ts.length (ds.getD i .none)).all id) = ds.all (inW ts.length) := by
        rw [lxs, Bool.eq_iff_iff, List.all_map, List.all_eq_true, List.all_eq_true]
        constructor
        · intro h x hx
          obtain ⟨i, hi, rfl⟩ := List.getElem_of_mem hx
          have := h i (List.mem_range.mpr hi)
          have this : inW ts.length (ds.getD i .none) = true := this
          rw [List.getD_eq_getElem?_getD, List.getElem?_eq_getElem hi] at this
          exact this
        · intro h i hi
          have hi := List.mem_range.mp hi
          show inW ts.length (ds.getD i .none) = true
          rw [List.getD_eq_getElem?_getD, List.getElem?_eq_getElem hi]
          exact h _ (List.getElem_mem hi)
      have s04 := sp.trans s4
      refine ⟨D, _, rfl, SqL.of eD, _, rfl, ?_⟩
      rw [eall]
      cases hall : ds.all (inW ts.length) with
      | false => exact iteT (q0 (numsOf_all hr' hall rfl) _ s04)
      | true =>
      refine iteF ?_
      obtain ⟨ns, rfl, hns⟩ := ints_of_inW hall
      have ex : xs = ns.map V.int := hl.ints
      subst ex
      have hX4 := hX.imp (fun e => s04 _ _ e) (fun e => s04 _ _ e)
      have hnl : ns.length ≤ 3000 := by rw [List.length_map] at hdl; exact hdl
      have eT : testsB ts d b = (incB ns && ns.all (wordB ts b)) := testsB_ints hr' hns
      rw [eT] at q
      refine ⟨_, rfl, X, _, rfl, hX4.imp SqL.of (fun e => .inl (.inl e)), fun l1 nl1 => ?_⟩
      have sl1 := same_upd (o := .lst (ns.map V.int)) nl1
      have el1 := upd_same (H := H4) (a := l1) (o := .lst (ns.map V.int))
      have hX5 := hX4.imp (fun e => sl1 _ _ e) (fun e => sl1 _ _ e)
      have s05 := s04.trans sl1
      revert sl1 el1 hX5 s05
      generalize upd H4 l1 (.lst (ns.map V.int)) = H5
      intro sl1 el1 hX5 s05
      refine ⟨_, rfl, X, ns, rfl, hX5.imp SqL.of (fun e => .inl (.inl e)), by omega, fun ms p2 up mem np2 => ?_⟩
      have sp2 := same_upd (o := .lst (ms.map V.int)) np2
      refine ⟨_, _, .lst (SqL.of (sp2 _ _ el1)) (dp_ints _), .lst (SqL.of upd_same) (dp_ints _), shaped_ints ns, shaped_ints ms, ?_⟩
      rw [eqv_intsB]
      have einc : decide (ns = ms) = incB ns := by
        unfold incB
        rw [Bool.eq_iff_iff, decide_eq_true_eq, decide_eq_true_eq]
        exact ⟨fun z => z ▸ up, fun z => inc_ext z up fun k => (mem k).symm⟩
      rw [einc]
      have s06 := s05.trans sp2
      have hX6 := hX5.imp (fun e => sp2 _ _ e) (fun e => sp2 _ _ e)
      have eL6 := s06 _ _ hL
      cases hinc : incB ns with
      | false =>
        rw [hinc] at q
        exact ⟨_, rfl, iteF (q _ s06)⟩
      | true =>
      rw [hinc, Bool.true_and] at q
      refine ⟨_, rfl, iteT ⟨_, rfl, X, rfl, iseq_lc hX6 fun J G wk hG D2 nD2 => lc_mapW V.bl (fun i => wordB ts b (ns.getD i 0)) wk nD2 (by rw [List.length_map]; omega) (fun H' s' => hG H' (NoTab.same s')) (fun j x2 H7 H7' Kt Kn hj s7 hy2 k => ?_) (fun H7 s7 eD2 => ?_)⟩⟩
      · obtain ⟨rfl, hx2⟩ := hy2
        rw [List.getElem?_map] at hx2
        obtain ⟨n, en, rfl⟩ := Option.map_eq_some_iff.mp hx2
        have eg : ns.getD j 0 = n := by rw [List.getD_eq_getElem?_getD, en]; rfl
        rw [eg] at k
        obtain ⟨n0, n1⟩ := hns n (List.mem_of_getElem? en)
        obtain ⟨m, rfl⟩ := Int.eq_ofNat_of_zero_le n0
        have lm : m < ts.length := by omega
        obtain ⟨z, ez, hz⟩ := ((hy.same s06).same s7).at' (List.getElem?_eq_getElem lm)
        obtain ⟨T, rfl, eT2⟩ := hz.tst
        refine ⟨rfl, _, rfl, _, rfl, L, ys, (m : Int), .ref T, rfl, rfl, SqL.of (s7 _ _ eL6), atI_nat ez, T, _, 2, _, rfl, rfl, .inl (.inl eT2), atI_nat (j := 2) rfl, _, rfl, rfl, ?_⟩
        have ew : decide (V.str (wordD ts[m].bad) = V.str (wordD b)) = wordB ts b (m : Int) := by
          unfold wordB
          rw [show ((m : Int)).toNat = m from rfl, List.getElem?_eq_getElem lm]
          show _ = (ts[m].bad == b)
          cases ts[m].bad <;> cases b <;> decide
        rw [ew]
        exact k _ (Same.refl _)
      · refine ⟨D2, _, rfl, SqL.of eD2, ?_⟩
        have e2 : (((List.range (ns.map V.int).length).map fun i => wordB ts b (ns.getD i 0)).all id) = ns.all (wordB ts b) := by
          rw [List.length_map]
          exact all_range fun i hi => by rw [List.getD_eq_getElem?_getD, List.getElem?_eq_getElem hi]; rfl
        rw [e2]
        exact q _ (s06.trans s7)
end

/-! ### the law's own look at what is told, of any thing -/
def DicR (R : Bat3 → V → Prop) (kvs : List (Key × V)) (bs : List Bat3) (n : Nat) : Prop := ∀ i B, i < n → bs[i]? = some B → ∃ v, valV kvs (.inr B.mark) = some v ∧ R B v
theorem DicR.put {R : Bat3 → V → Prop} {kvs : List (Key × V)} {bs : List Bat3} {n : Nat} {B : Bat3} {v : V} (h : DicR R kvs bs n) (nd : (bs.map Bat3.mark).Nodup) (e : bs[n]? = some B) (hv : R B v) : DicR R (putK kvs (.inr B.mark) v) bs (n + 1) := fun i B' hi e' => by
  rw [valV_put]
  by_cases ei : i = n
  · subst ei
    rw [e] at e'
    cases e'
    rw [if_pos rfl]
    exact ⟨v, rfl, hv⟩
  · have ne : B'.mark ≠ B.mark := fun z => by
      obtain ⟨hi', ei'⟩ := List.getElem?_eq_some_iff.mp e'
      obtain ⟨hj', ej'⟩ := List.getElem?_eq_some_iff.mp e
      exact ei ((List.getElem_inj (h₀ := by rw [List.length_map]; exact hi') (h₁ := by rw [List.length_map]; exact hj') nd).mp (by rw [List.getElem_map, List.getElem_map, ei', ej', z]))
    rw [if_neg (fun z => ne (Sum.inr.inj z))]
    exact h i B' (by omega) e'
def lseenD (x : Option (Int × Int) × Bool) : PyData := .tuple [spanD x.1, .bool x.2]
theorem ThgL.spans {cs cs' : List Addr} {H : Hp} {vs : List V} {os : List (Option (Int × Int))} (h : ThgL cs H vs (os.map spanD)) : ThgL cs' H vs (os.map spanD) := ⟨h.1, fun i x d e1 e2 => by
  obtain ⟨o, eo, ho⟩ := h.atM e1
  rw [List.getElem?_map, eo] at e2
  cases e2
  exact ho.span⟩
theorem some_spans (os : List (Option (Int × Int))) : os.filterMap (fun o => o.map pairD) = (os.filterMap id).map pairD := by
  induction os with
  | nil => rfl
  | cons o r ih =>
    cases o with
    | none => exact ih
    | some w => exact congrArg (pairD w :: ·) ih
theorem win_span {bs : List Bat3} {ts : List Tst} (hC : CaseOk bs ts) {p : Str} {n : Int} {r : Int × Int} (e : wOf bs ts p n = some r) : 0 ≤ r.1 ∧ r.1 ≤ r.2 := by
  unfold wOf at e
  cases et : ts[n.toNat]? with
  | none => rw [et] at e; cases e
  | some t =>
    rw [et] at e
    have e : winT bs p t = some r := e
    obtain ⟨B, hB, _, ew, k0, k1⟩ := winT_of hC (List.mem_of_getElem? et) p
    rw [ew] at e
    exact winF_ok (hC.bat B hB) k0 k1 e
theorem tests_ok {ts : List Tst} {d : PyData} {b : Bool} (h : testsB ts d b = true) : ∃ ns, numsOf d = some ns ∧ rowOf d = some (ns.map PyData.int) ∧ ns.length ≤ ts.length ∧ ∀ n ∈ ns, ∃ (m : Nat) (t : Tst), n = (m : Int) ∧ ts[m]? = some t := by
  unfold testsB at h
  cases e : numsOf d with
  | none => rw [e] at h; cases h
  | some ns =>
    rw [e] at h
    obtain ⟨h1, _⟩ := Bool.and_eq_true_iff.mp h
    unfold belB at h1
    rw [e] at h1
    have h1 : (incB ns && ns.all (fun x => decide (x < (ts.length : Int)))) = true := h1
    obtain ⟨h2, h3⟩ := Bool.and_eq_true_iff.mp h1
    unfold numsOf at e
    cases er : rowOf d with
    | none => rw [er] at e; cases e
    | some ds =>
      rw [er] at e
      have e : (if ds.all isNumD then some (ds.map intD) else none) = some ns := e
      by_cases hd : ds.all isNumD = true
      · rw [if_pos hd] at e
        cases e
        have h0 : ∀ n ∈ ds.map intD, 0 ≤ n := fun n hn => by
          obtain ⟨x, hx, rfl⟩ := List.mem_map.mp hn
          obtain ⟨i, rfl, i0⟩ := isNumD_int (List.all_eq_true.mp hd x hx)
          exact i0
        have hl := ris_few (a := 0) (m := (ts.length : Int)) (by omega) (of_decide_eq_true h2) h0 fun x hx => of_decide_eq_true (List.all_eq_true.mp h3 x hx)
        refine ⟨_, rfl, ?_, by omega, fun n hn => ?_⟩
        · rw [List.map_map]
          congr 1
          refine (List.map_id ds).symm.trans (List.map_congr_left fun x hx => ?_)
          obtain ⟨i, rfl, i0⟩ := isNumD_int (List.all_eq_true.mp hd x hx)
          rfl
        · obtain ⟨m, rfl⟩ := Int.eq_ofNat_of_zero_le (h0 n hn)
          have := of_decide_eq_true (List.all_eq_true.mp h3 _ hn)
          exact ⟨m, _, rfl, List.getElem?_eq_getElem (by omega)⟩
      · rw [if_neg hd] at e
        cases e
theorem strB_iff {d : PyData} {y : Str} : strB d y = true ↔ d = .str y := by
  cases d <;> simp [strB]
theorem showsT_eq {bs : List Bat3} {ts : List Tst} {p : Str} {db dg : PyData} {nb ng : List Int} (h1 : testsB ts db true = true) (h2 : testsB ts dg false = true) (e1 : numsOf db = some nb) (e2 : numsOf dg = some ng) : showsT bs ts p (.tuple [.str p, db, dg]) = showsW bs ts p nb ng := by
  show showsB bs ts p p db dg = _
  unfold showsB
  rw [h1, h2, e1, e2, decide_eq_true rfl]
  rfl
theorem showsT_t {bs : List Bat3} {ts : List Tst} {p p' : Str} {db dg : PyData} (h : testsB ts db true = false ∨ testsB ts dg false = false) : showsT bs ts p (.tuple [.str p', db, dg]) = false := by
  show showsB bs ts p p' db dg = _
  unfold showsB
  rcases h with h | h
  · rw [h, Bool.false_and, Bool.and_false]
  · rw [h, Bool.false_and, Bool.and_false, Bool.and_false]
def spLShown (K : PySem.W.Frag) : Sp := fun vs H Q _ => ∃ (a L : Addr) (v : V) (d : PyData) (us ys : List V) (bs : List Bat3) (ts : List Tst) (cs c : List Addr), vs = [.ref a, .ref L, v] ∧ H a = some (.lst us) ∧ ThgL cs H us (bs.map batD) ∧ H L = some (.lst ys) ∧ ThgL cs H ys (ts.map tstD) ∧ CaseOk bs ts ∧ Sm8 bs ∧ Thg c H v d ∧ (∀ ds, rowOf d = some ds → ∀ t ∈ ds, ∀ es, rowOf t = some es → ∀ e ∈ es, ∀ fs, rowOf e = some fs → fs.length ≤ 3000) ∧
  ∀ ps H', Same H H' → SrtT (PlaceP bs) ps → Q (.bl (showsNB bs ts ps d)) H'
abbrev sLShown : Stmt := topS 41
theorem scLShown : FnScope ["_law_batches_here", "_law_tests_here", "_law_told", "_law_places_here", "_law_by_mark", "_law_place", "_law_row", "_law_seen", "_law_some", "_law_batch", "_law_k", "_law_one"] ["_law_batches_here", "_law_tests_here", "_law_told"] (defScope sLShown) := ⟨rfl, rfl, rfl, by decide +kernel, rfl, by decide +kernel, by decide +kernel⟩
section
variable {K : PySem.W.Frag} {mg : Str → Option Value} {P : Program} {w : World} {base : Heap}
theorem ok_LShown {f : Addr} {fd : FuncData} (F : Fun K "_law_is_shown" "_law_is_shown" sLShown f fd) (C__law_places : Cal P w K mg base 1 "_law_places" ["_law_batches_here"] (spLPl K)) (C__law_text_is : Cal P w K mg base 1 "_law_text_is" ["_law_thing", "_law_text"] spLTxt) (C__law_numbers : Cal P w K mg base 1 "_law_numbers" ["_law_tests_here", "_law_thing", "_law_word"] spLNums) (C__law_window : Cal P w K mg base 1 "_law_window" ["_law_batch", "_law_place", "_law_tin"] spLWin) (C__law_fits : Cal P w K mg base 2 "_law_fits" ["_law_windows_bad", "_law_windows_good"] spLFits) (m_dict : mg "dict" = none) (m_tuple : mg "tuple" = none) (m_list : mg "list" = none) (m_isinstance : mg "isinstance" = none) (m_len : mg "len" = none) (m_zip : mg "zip" = none) : FnOk P w K mg base CX0 3 f fd ["_law_batches_here", "_law_tests_here", "_law_told"] (spLShown K) := by
  refine F.ok scLShown (fun vs H Q E h => ?_) (fun cdv A outer s H vs Q E hr h => ?_)
  · obtain ⟨a, L, v, d, us, ys, bs, ts, cs, c0, rfl, _⟩ := h
    rfl
  · obtain ⟨a, L, v, d, us, ys, bs, ts, cs, c0, rfl, ha, hu, hL, hy, hC, h8, hv, hsz, q⟩ := h
    refine ⟨_, pss_cons (ps_asg (pe_tup (pa_cons (pe_own C__law_places (hr.mono (show 1 ≤ 2 by decide)) (by rfl) (pa_cons (pv 0) pa_nil)) (pa_cons (pe_callTy (call_dictP rfl) (by rfl) m_dict (by decide +kernel) (pa_cons (pe_lc (own := [("_law_batch", 9)]) (g := (gName 9)) (tt := tYes) (te := (tTup (tCons (tOp (rIxT K) (tVar 9) (tC (.int 0))) (tCons (tVar 9) tNil)))) rfl scLShown.nd (pi_list (pv 0)) (blkOk_by (own := [("_law_batch", 9)]) (N := ["_law_batches_here", "_law_tests_here", "_law_told", "_law_places_here", "_law_by_mark", "_law_place", "_law_row", "_law_seen", "_law_some", "_law_batch", "_law_k", "_law_one"]) (sc := defScope sLShown) (by decide +kernel)) (fun _ _ _ _ _ => (pg_name (i := 9) scLShown.nd rfl (.inl rfl))) (fun _ _ _ _ _ => pts_nil) (fun _ _ _ _ _ => (pe_tup (pa_cons (pe_ix ix_tup (pv 9) pe_int (fun _ _ => rfl)) (pa_cons (pv 9) pa_nil))))) pa_nil)) pa_nil))) (pg_tup rfl (pgs_cons (pg_name (i := 3) scLShown.nd rfl (.inl rfl)) (pgs_cons (pg_name (i := 4) scLShown.nd rfl (.inr rfl)) pgs_nil))))
      (pss_cons (ps_if (PW.pt (pw_or (pt_not (pt_val (pe_callB call_isiT (by rfl) m_isinstance (by decide +kernel) (pa_cons (pv 2) (pa_cons (pe_tup (pa_cons (pe_bltn (v := .ty "list") (by rfl) m_list (by decide +kernel) rfl) (pa_cons (pe_bltn (v := .ty "tuple") (by rfl) m_tuple (by decide +kernel) rfl) pa_nil))) pa_nil))))) (pw_or1 (pt_cmpR op_ne (pe_callB call_len_seq (by rfl) m_len PySem.boot_len (pa_cons (pv 2) pa_nil)) (pe_callB call_len_seq (by rfl) m_len PySem.boot_len (pa_cons (pv 3) pa_nil)) (nomark _))))) (pss_one (ps_ret pe_bl))
        pss_nil)
      (pss_cons (ps_for PassesOwn.never rfl (pi_zipQ (by rfl) m_zip (pa_cons (pv 3) (pa_cons (pv 2) pa_nil))) (pg_tup rfl (pgs_cons (pg_name (i := 5) scLShown.nd rfl (.inr rfl)) (pgs_cons (pg_name (i := 6) scLShown.nd rfl (.inl rfl)) pgs_nil)))
        (pss_cons (ps_if (PW.pt (pw_or (pt_not (pt_val (pe_callB call_isi (by rfl) m_isinstance (by decide +kernel) (pa_cons (pv 6) (pa_cons (pe_bltn (v := .ty "tuple") (by rfl) m_tuple (by decide +kernel) rfl) pa_nil))))) (pw_or (pt_cmpR op_ne (pe_callB call_len_seq (by rfl) m_len PySem.boot_len (pa_cons (pv 6) pa_nil)) pe_int (nomark _)) (pw_or1 (pt_not (pt_val (pe_own C__law_text_is (hr.mono (show 1 ≤ 2 by decide)) (by rfl) (pa_cons (pe_ix ix_tup (pv 6) pe_int (fun _ _ => rfl)) (pa_cons (pv 5) pa_nil))))))))) (pss_one (ps_ret pe_bl))
          pss_nil)
        (pss_cons (ps_if (PW.pt (pw_or (pt_not (pt_val (pe_own C__law_numbers (hr.mono (show 1 ≤ 2 by decide)) (by rfl) (pa_cons (pv 1) (pa_cons (pe_ix ix_tup (pv 6) pe_int (fun _ _ => rfl)) (pa_cons pe_str pa_nil)))))) (pw_or1 (pt_not (pt_val (pe_own C__law_numbers (hr.mono (show 1 ≤ 2 by decide)) (by rfl) (pa_cons (pv 1) (pa_cons (pe_ix ix_tup (pv 6) pe_int (fun _ _ => rfl)) (pa_cons pe_str pa_nil))))))))) (pss_one (ps_ret pe_bl))
          pss_nil)
        (pss_cons (ps_setLc (i := 7) (own := [("_law_some", 8)]) (g := (gName 8)) (tt := tYes) (te := (tLc (iSeq K (tVar 8)) (gName 10) tYes (tCall spLWin [] E0 (tCons (tDGet (tVar 4) (tOp (rIxT K) (tOp (rIxL K) (tVar 1) (tVar 10)) (tC (.int 0)))) (tCons (tVar 5) (tCons (tOp (rIxT K) (tOp (rIxL K) (tVar 1) (tVar 10)) (tC (.int 1))) tNil)))) [10])) rfl scLShown.nd rfl rfl (sw_true rfl rfl rfl (by decide +kernel)) (pi_seq (pe_slice sl_tup (pv 6) (po_some pe_int) po_none)) (blkOk_by (own := [("_law_some", 8)]) (N := ["_law_batches_here", "_law_tests_here", "_law_told", "_law_places_here", "_law_by_mark", "_law_place", "_law_row", "_law_seen", "_law_some", "_law_batch", "_law_k", "_law_one"]) (sc := defScope sLShown) (by decide +kernel)) (fun _ _ _ _ _ => (pg_name (i := 8) scLShown.nd rfl (.inl rfl))) (fun _ _ _ _ _ => pts_nil) (fun _ _ _ _ _ => (pe_lc (own := [("_law_k", 10)]) (g := (gName 10)) (tt := tYes) (te := (tCall spLWin [] E0 (tCons (tDGet (tVar 4) (tOp (rIxT K) (tOp (rIxL K) (tVar 1) (tVar 10)) (tC (.int 0)))) (tCons (tVar 5) (tCons (tOp (rIxT K) (tOp (rIxL K) (tVar 1) (tVar 10)) (tC (.int 1))) tNil))))) rfl scLShown.nd (pi_seq (pv 8)) (blkOk_by (own := [("_law_k", 10)]) (N := ["_law_batches_here", "_law_tests_here", "_law_told", "_law_places_here", "_law_by_mark", "_law_place", "_law_row", "_law_seen", "_law_some", "_law_batch", "_law_k", "_law_one"]) (by show blkC _ ({ kind := .function, names := [(".0", .local), ("_law_some", .local), ("_law_by_mark", .cell), ("_law_place", .cell), ("_law_tests_here", .cell)], isGenerator := false, isCoroutine := false } : Scope) _ _ = true; decide +kernel)) (fun _ _ _ _ _ => (pg_name (i := 10) scLShown.nd rfl (.inl rfl))) (fun _ _ _ _ _ => pts_nil) (fun _ _ _ _ _ => (pe_own C__law_window (hr.mono (show 1 ≤ 2 by decide)) (by rfl) (pa_cons (pe_dget (hu_of hr) (pv 4) (pe_ix ix_tup (pe_ix ix_list (pv 1) (pv 10) (fun _ _ => rfl)) pe_int (fun _ _ => rfl)) (fun _ _ => rfl)) (pa_cons (pv 5) (pa_cons (pe_ix ix_tup (pe_ix ix_list (pv 1) (pv 10) (fun _ _ => rfl)) pe_int (fun _ _ => rfl)) pa_nil))))))))
        (pss_one (ps_if (pt_cmpR (op_inD (u65 hr)) pe_non (pe_ix ix_list (pv 7) pe_int (fun _ _ => rfl)) (by rfl)) (pss_one (ps_if (PW.pt (pw_or (pt_cmpR op_gt (pe_callB call_len_seq (by rfl) m_len PySem.boot_len (pa_cons (pe_ix ix_list (pv 7) pe_int (fun _ _ => rfl)) pa_nil)) pe_int (nomark _)) (pw_or1 (pt_cmpR op_gt (pe_callB call_len_seq (by rfl) m_len PySem.boot_len (pa_cons (pe_ix ix_list (pv 7) pe_int (fun _ _ => rfl)) pa_nil)) pe_int (nomark _))))) (pss_one (ps_ret pe_bl))
            pss_nil))
          (pss_one (ps_if (PW.pt (pw_or (pt_not (pt_chain op_lt op_lt pe_int (pe_callB call_len_seq (by rfl) m_len PySem.boot_len (pa_cons (pe_ix ix_list (pv 7) pe_int (fun _ _ => rfl)) pa_nil)) pe_int)) (pw_or1 (pt_val (pe_own C__law_fits hr (by rfl) (pa_cons (pe_ix ix_list (pv 7) pe_int (fun _ _ => rfl)) (pa_cons (pe_lc (own := [("_law_one", 11)]) (g := (gName 11)) (tt := (tTest (tOp (fun x y H Q => y = .non ∧ Q (.bl (!decide (x = .non))) H) (tVar 11) (tC .non)))) (te := (tVar 11)) rfl scLShown.nd (pi_list (pe_ix ix_list (pv 7) pe_int (fun _ _ => rfl))) (blkOk_by (own := [("_law_one", 11)]) (N := ["_law_batches_here", "_law_tests_here", "_law_told", "_law_places_here", "_law_by_mark", "_law_place", "_law_row", "_law_seen", "_law_some", "_law_batch", "_law_k", "_law_one"]) (sc := defScope sLShown) (by decide +kernel)) (fun _ _ _ _ _ => (pg_name (i := 11) scLShown.nd rfl (.inl rfl))) (fun _ _ _ _ _ => (pts_one (pt_cmpR op_notN (pv 11) pe_non (nomark _)))) (fun _ _ _ _ _ => (pv 11))) pa_nil))))))) (pss_one (ps_ret pe_bl))
            pss_nil))))))))
      (pss_one (ps_ret pe_bl)))), ?_⟩
    have hul : us.length = bs.length := by rw [hu.1, List.length_map]
    have hyl : ys.length = ts.length := by rw [hy.1, List.length_map]
    have h100 := hC.bl
    have htl := hC.tl
    refine ⟨_, rfl, a, us, bs, cs, rfl, ha, hu, h8, fun l ps H1 nl s1 el hps => ?_⟩
    refine ⟨_, rfl, a, rfl, ⟨_, SqL.of (s1 _ _ ha)⟩, fun D nD => ?_⟩
    refine lc_it (walk_list (xs := us)) (fun i H' => Same H1 H' ∧ ∃ ws : List Addr, H' D = some (.lst (ws.map V.ref)) ∧ ws.length = i ∧ ∀ (j : Nat) T, ws[j]? = some T → ∃ B x, bs[j]? = some B ∧ us[j]? = some x ∧ H' T = some (.tup [.str B.mark, x])) ⟨same_upd nD, [], upd_same, rfl, fun j T e => nomatch e⟩ (fun i H' _ p => SqL.of (p.1 _ _ (s1 _ _ ha))) (fun i x H2 H2' hi hP hyy => ?_) (fun H2 hP => ?_)
    · obtain ⟨sm, ws, eD, hwl, hws⟩ := hP
      obtain ⟨rfl, hx⟩ := hyy
      obtain ⟨B, eB, hB⟩ := hu.atM hx
      obtain ⟨c, l', xs', rfl, ec, _⟩ := ((hB.same s1).same sm).batL
      refine ⟨rfl, _, rfl, c, _, 0, _, rfl, rfl, .inl (.inl ec), atI_nat (j := 0) rfl, _, rfl, (by show 2 ≤ sizeLine; decide), fun T nT => ?_⟩
      have sT := same_upd (o := .tup [.str B.mark, .ref c]) nT
      have eD2 := sT _ _ eD
      refine ⟨_, eD2, small1000 (by rw [List.length_map]; omega), fun b o e => ?_, ws ++ [T], by rw [upd_same, List.map_append]; rfl, by rw [List.length_append, hwl]; rfl, fun j T' e => ?_⟩
      · rw [upd_ne (ne_of_none e nD)]
        exact sT _ _ (sm b o e)
      · have keep : ∀ {T2 : Addr} {z : List V}, upd H2' T (.tup [.str B.mark, .ref c]) T2 = some (.tup z) → upd (upd H2' T (.tup [.str B.mark, .ref c])) D (.lst (ws.map V.ref ++ [.ref T])) T2 = some (.tup z) := fun e => by rw [upd_ne (ne_of e eD2 (fun z => nomatch z))]; exact e
        by_cases hj : j < ws.length
        · rw [List.getElem?_append_left hj] at e
          obtain ⟨B', x', g1, g2, g3⟩ := hws j T' e
          exact ⟨B', x', g1, g2, keep (sT _ _ g3)⟩
        · rw [List.getElem?_append_right (by omega)] at e
          have h0 : j - ws.length < 1 := (List.getElem?_eq_some_iff.mp e).1
          obtain rfl : j = ws.length := by omega
          rw [Nat.sub_self] at e
          cases e
          rw [hwl]
          exact ⟨B, _, eB, hx, keep upd_same⟩
    obtain ⟨sm, ws, eD, hwl, hws⟩ := hP
    rw [hul] at hwl
    have pr : ∀ n, n ≤ ws.length → ∃ kvs : List (Key × V), Paired (fun p kv => SqT K H2 p [kV kv.1, kv.2]) (ws.take n) kvs ∧ kvs.length = n ∧ DicR (fun B v => Thg cs H2 v (batD B)) (mergeK [] kvs) bs n := by
      intro n
      induction n with
      | zero => exact fun _ => ⟨[], .nil, rfl, fun i B z => absurd z (Nat.not_lt_zero _)⟩
      | succ n ih =>
        intro hn
        obtain ⟨kvs, h1, h2, h3⟩ := ih (by omega)
        have eT : ws[n]? = some ws[n] := List.getElem?_eq_getElem (by omega)
        obtain ⟨B, x, g1, g2, g3⟩ := hws n _ eT
        refine ⟨kvs ++ [(.inr B.mark, x)], ?_, by rw [List.length_append, h2]; rfl, ?_⟩
        · rw [List.take_add_one, eT]
          exact h1.snoc (.inl (.inl g3))
        · have e : mergeK [] (kvs ++ [(.inr B.mark, x)]) = putK (mergeK [] kvs) (.inr B.mark) x := by
            unfold mergeK
            rw [List.foldl_append]
            rfl
          rw [e]
          exact h3.put hC.nd g1 (((hu.2 n x _ g2 (by rw [List.getElem?_map, g1]; rfl)).same s1).same sm)
    obtain ⟨kvs, hp, hkl, hd⟩ := pr ws.length (Nat.le_refl _)
    rw [List.take_length] at hp
    rw [hwl] at hd
    refine ⟨D, ws, kvs, rfl, SqL.of eD, hp, fun M nM => ?_⟩
    have sM := same_upd (o := .dK (mergeK [] kvs)) nM
    have S := (s1.trans sm).trans sM
    have eM := upd_same (H := H2) (a := M) (o := .dK (mergeK [] kvs))
    have el2 := sM _ _ (sm _ _ el)
    have hd2 : ∀ (i : Nat) (B : Bat3), i < bs.length → bs[i]? = some B → ∃ v, valV (mergeK [] kvs) (Sum.inr B.mark) = some v ∧ Thg cs (upd H2 M (.dK (mergeK [] kvs))) v (batD B) := fun i B hi e => let ⟨v, h1, h2⟩ := hd i B hi e; ⟨v, h1, h2.same sM⟩
    revert S eM hd2 el2
    generalize upd H2 M (.dK (mergeK [] kvs)) = H3
    generalize mergeK [] kvs = kk
    intro S eM el2 hd2
    refine ⟨(by show 2 ≤ sizeLine; decide), fun T0 nT0 => ⟨T0, _, rfl, .inl (.inl upd_same), rfl, _, _, rfl, _, _, rfl, rfl, ?_⟩⟩
    have sT0 := same_upd (o := .tup [V.ref l, V.ref M]) nT0
    refine ⟨_, rfl, (by show 2 ≤ sizeLine; decide), fun p np => ?_⟩
    have sp := same_upd (o := .tup [.ty "list", .ty "tuple"]) np
    have ep := upd_same (H := upd H3 T0 (.tup [V.ref l, V.ref M])) (a := p) (o := .tup [.ty "list", .ty "tuple"])
    have S4 := (S.trans sT0).trans sp
    have eM4 := sp _ _ (sT0 _ _ eM)
    have el4 := sp _ _ (sT0 _ _ el2)
    have hd4 := fun i B hi e => let ⟨v, h1, h2⟩ := hd2 i B hi e; (⟨v, h1, (h2.same sT0).same sp⟩ : ∃ v, valV kk (Sum.inr B.mark) = some v ∧ Thg cs _ v (batD B))
    revert S4 ep eM4 el4 hd4
    generalize upd (upd H3 T0 (.tup [V.ref l, V.ref M])) p (.tup [.ty "list", .ty "tuple"]) = H4
    intro ep S4 eM4 el4 hd4
    obtain ⟨tx, g1, g2⟩ := isi_row (K := K) (hv.same S4)
    refine ⟨v, p, _, tx, _, _, rfl, ep, .cons (.ty _) (.cons (.ty _) .nil), g1, g2, _, rfl, ?_⟩
    cases hr' : rowOf d with
    | none =>
      have q := q ps H4 S4 hps
      rw [showsNB_none hr'] at q
      exact iteT (iteT q)
    | some ds =>
    have hsz := hsz ds hr'
    obtain ⟨X, xs, rfl, hX, hl⟩ := hv.row hr'
    have hX4 : SqH H4 X xs := hX.imp (fun e => S4 _ _ e) (fun e => S4 _ _ e)
    have qf : ¬ ShowsP bs ts ps ds → ∀ H', Same H H' → Q (.bl false) H' := fun h H' s => by
      have q := q ps H' s hps
      rw [Bool.eq_false_iff.mpr fun z => h ((showsNB_some hr').mp z)] at q
      exact q
    refine iteF ⟨_, rfl, X, xs, rfl, hX4.imp SqL.of (fun e => .inl (.inl e)), _, rfl, l, ps.map V.str, rfl, .inl (SqL.of el4), ?_⟩
    rw [hl.1, List.length_map]
    refine ⟨rfl, _, rfl, ite2 (fun c => ?_) (fun c => ?_)⟩
    · refine qf (fun z => ?_) H4 S4
      rw [z.1] at c
      simp at c
    have hlen : ds.length = ps.length := Classical.byContradiction fun z => c (by
      have : ¬ ((ds.length : Int) = (ps.length : Int)) := fun h => z (by omega)
      simp [this]
      try omega)
    refine zipq_vars rfl rfl (.inl el4) hX4 (by rw [hl.1, List.length_map, hlen]) fun J G wk hGo => for_it wk (fun i σ Hx => ∃ y5 y6 y7 y8 y9 y10 y11 : Option V, σ = [some (.ref a), some (.ref L), some (.ref X), some (.ref l), some (.ref M), y5, y6, y7, y8, y9, y10, y11] ∧ Same H4 Hx ∧ ∀ j, j < i → showsAt bs ts ps ds j = true) ⟨_, _, _, _, _, _, _, rfl, Same.refl _, fun j z => absurd z (Nat.not_lt_zero _)⟩ (fun i σ Hx _ hP => ?_) (fun i x σ Hx Hx' hi hP hyy => ?_) (fun σ Hx hP => ?_)
    · obtain ⟨_, _, _, _, _, _, _, rfl, sx, _⟩ := hP
      exact hGo _ (NoTab.same sx)
    · obtain ⟨y5, y6, y7, y8, y9, y10, y11, rfl, sx, hall⟩ := hP
      obtain ⟨T, x1, x2, rfl, nT, rfl, e1, e2⟩ := hyy
      have e1 : (ps.map V.str)[i]? = some x1 := e1
      have e2 : xs[i]? = some x2 := e2
      rw [List.getElem?_map] at e1
      obtain ⟨pp, epp, rfl⟩ := Option.map_eq_some_iff.mp e1
      obtain ⟨t, et, ht⟩ := hl.at e2
      have sT := same_upd (o := .tup [.str pp, x2]) nT
      have S5 := (S4.trans sx).trans sT
      have s45 := sx.trans sT
      have eSA : showsAt bs ts ps ds i = showsT bs ts pp t := by
        unfold showsAt
        rw [epp, et]
      have hip : i < ps.length := (List.getElem?_eq_some_iff.mp epp).1
      have qb : showsT bs ts pp t = false → ∀ H', Same H H' → Q (.bl false) H' := fun e => qf fun z => by
        have := z.2 i hip
        rw [eSA, e] at this
        cases this
      have ht5 := ht.same S5
      have hsz := hsz t (List.mem_of_getElem? et)
      refine ⟨T, _, rfl, .inl (.inl upd_same), rfl, _, _, rfl, _, _, rfl, rfl, ?_⟩
      revert S5 s45 ht5 
      generalize upd Hx T (.tup [.str pp, x2]) = H5
      intro S5 s45 ht5
      obtain ⟨tv, f1, f2⟩ := isi_tup (K := K) ht5
      refine ⟨_, rfl, _, _, tv, _, _, rfl, .ty _, f1, f2, _, rfl, ?_⟩
      cases hT : isTupD t with
      | false => exact iteT (qb (showsT_not (by cases t <;> first | rfl | cases hT)) H5 S5)
      | true =>
      refine iteF ?_
      obtain ⟨T5, zs, es, rfl, eT5, rfl, lz, kz⟩ : ∃ t0 xs es, x2 = .ref t0 ∧ H5 t0 = some (.tup xs) ∧ t = .tuple es ∧ xs.length = es.length ∧ ∀ (i : Nat) x d, xs[i]? = some x → es[i]? = some d → Thg c0 H5 x d := by
        cases ht5 with
        | tup e l k => exact ⟨_, _, _, rfl, e, rfl, l, k⟩
        | lst e n l k => cases hT
        | non => cases hT
        | bl b => cases hT
        | int i => cases hT
        | str x => cases hT
      refine ⟨_, rfl, T5, _, rfl, .inr (.inl (.inl eT5)), rfl, _, rfl, ite2 (fun z => ?_) (fun z => ?_)⟩
      · refine qb (showsT_not ?_) H5 S5
        by_cases e : zs.length = 3
        · simp [e] at z
        · exact decide_eq_false (by omega)
      have l3 : zs.length = 3 := by
        by_cases e : zs.length = 3
        · exact e
        · simp [e] at z
          omega
      obtain ⟨z1, z2, z3, rfl⟩ : ∃ z1 z2 z3, zs = [z1, z2, z3] := by
        match zs, l3 with
        | [z1, z2, z3], _ => exact ⟨_, _, _, rfl⟩
      obtain ⟨dx, db, dg, rfl⟩ : ∃ d1 d2 d3, es = [d1, d2, d3] := by
        match es, lz with
        | [d1, d2, d3], _ => exact ⟨_, _, _, rfl⟩
      have hx1 : Thg c0 H5 z1 dx := kz 0 _ _ rfl rfl
      have hx2 : Thg c0 H5 z2 db := kz 1 _ _ rfl rfl
      have hx3 : Thg c0 H5 z3 dg := kz 2 _ _ rfl rfl
      refine ⟨_, rfl, T5, _, 0, _, rfl, rfl, .inl (.inl eT5), atI_nat (j := 0) rfl, _, rfl, c0, z1, dx, pp, rfl, hx1, _, rfl, ?_⟩
      cases hst : strB dx pp with
      | false => exact iteT (qb (showsT_x fun z => by rw [strB_iff.mpr z] at hst; cases hst) H5 S5)
      | true =>
      obtain rfl := strB_iff.mp hst
      refine iteF ?_
      have hs2 : ∀ fs, rowOf db = some fs → fs.length ≤ 3000 := hsz _ rfl db (by simp)
      have hs3 : ∀ fs, rowOf dg = some fs → fs.length ≤ 3000 := hsz _ rfl dg (by simp)
      have eL5 := S5 _ _ hL
      have hy5 := hy.same S5
      refine ⟨_, rfl, _, rfl, T5, _, 1, _, rfl, rfl, .inl (.inl eT5), atI_nat (j := 1) rfl, L, z2, db, ys, ts, cs, c0, true, rfl, eL5, hy5, hx2, hs2, fun H6 s6 => ⟨_, rfl, ?_⟩⟩
      cases hb1 : testsB ts db true with
      | false => exact iteT (iteT (qb (showsT_t (.inl hb1)) H6 (S5.trans s6)))
      | true =>
      have eT6 := s6 _ _ eT5
      refine iteF ⟨_, rfl, _, rfl, T5, _, 2, _, rfl, rfl, .inl (.inl eT6), atI_nat (j := 2) rfl, L, z3, dg, ys, ts, cs, c0, false, rfl, s6 _ _ eL5, hy5.same s6, hx3.same s6, hs3, fun H7 s7 => ⟨_, rfl, ?_⟩⟩
      have S7 := (S5.trans s6).trans s7
      cases hb2 : testsB ts dg false with
      | false => exact iteT (qb (showsT_t (.inr hb2)) H7 S7)
      | true =>
      refine iteF ?_
      obtain ⟨nb, enb, erb, lnb, hnb⟩ := tests_ok hb1
      obtain ⟨ng, eng, erg, lng, hng⟩ := tests_ok hb2
      have eT7 := s7 _ _ eT6
      have s47 := (s45.trans s6).trans s7
      have eSW : showsT bs ts pp (.tuple [.str pp, db, dg]) = showsW bs ts pp nb ng := showsT_eq hb1 hb2 enb eng
      rw [eSW] at qb eSA
      refine ⟨_, rfl, 1, rfl, T5, _, rfl, .inl (.inl eT7), (by show ¬ (HT.sIx 3 0 (some 1) = 0 ∧ HT.sIx 3 3 none = 3); decide), fun p8 np8 => ?_⟩
      have s8 := same_upd (o := .tup (cutV [z1, z2, z3] (some 1) none)) np8
      have ec : cutV [z1, z2, z3] (some 1) none = [z2, z3] := cutV_tail _
      rw [ec] at s8 ⊢
      have e8 := upd_same (H := H7) (a := p8) (o := .tup [z2, z3])
      revert s8 e8
      generalize upd H7 p8 (.tup [z2, z3]) = H8
      intro s8 e8
      have S8 := S7.trans s8
      have s48 := s47.trans s8
      have hx28 := (((hx2.same s6).same s7).same s8)
      have hx38 := (((hx3.same s6).same s7).same s8)
      refine ⟨p8, rfl, iseq_lc (.inr e8) fun J2 G2 wk2 hG2 W nW => lc_thgd [.list ((winsF bs ts pp nb).map spanD), .list ((winsF bs ts pp ng).map spanD)] wk2 [] nW rfl (by show 2 ≤ 100000; decide) (fun H' s' => hG2 H' (NoTab.same s')) (fun j x dd H9 H9' Kt Kn hdd s9 hW hyy2 kt => ?_) (fun H9 vs9 s9 eW h9 => ?_)⟩
      · obtain ⟨rfl, hx⟩ := hyy2
        obtain ⟨ns, hns, hx9, edd, ern⟩ : ∃ ns : List Int, (∀ n ∈ ns, ∃ (m : Nat) (t : Tst), n = (m : Int) ∧ ts[m]? = some t) ∧ (∃ d', rowOf d' = some (ns.map PyData.int) ∧ Thg c0 H9' x d') ∧ dd = .list ((winsF bs ts pp ns).map spanD) ∧ ns.length ≤ ts.length := by
          match j with
          | 0 =>
            cases hx
            cases hdd
            exact ⟨nb, hnb, ⟨db, erb, hx28.same s9⟩, rfl, lnb⟩
          | 1 =>
            cases hx
            cases hdd
            exact ⟨ng, hng, ⟨dg, erg, hx38.same s9⟩, rfl, lng⟩
          | j + 2 => simp at hx
        subst edd
        obtain ⟨d', er', hx9⟩ := hx9
        obtain ⟨a', us', rfl, hA, hl'⟩ := hx9.row er'
        obtain rfl := hl'.ints
        obtain ⟨wsW, eW9⟩ := hW
        have hWl : (winsF bs ts pp ns).length = ns.length := by unfold winsF; rw [List.length_map]
        refine ⟨rfl, _, rfl, a', rfl, iseq_lc hA fun J3 G3 wk3 hG3 D2 nD2 => lc_thg ((winsF bs ts pp ns).map spanD) wk3 [] nD2 (by rw [List.length_map, List.length_map, hWl]) (by rw [List.length_map]; omega) (fun H' s' => hG3 H' (NoTab.same s')) (fun k z dz H10 H10' Kt2 Kn2 hdz s10 hyy3 kt2 => ?_) (fun H10 vs10 s10 eD2 h10 => ?_)⟩
        · obtain ⟨rfl, hz⟩ := hyy3
          rw [List.getElem?_map] at hz
          obtain ⟨n, en, rfl⟩ := Option.map_eq_some_iff.mp hz
          obtain ⟨m, tt, rfl, ett⟩ := hns n (List.mem_of_getElem? en)
          have edz : dz = spanD (winT bs pp tt) := by
            unfold winsF at hdz
            rw [List.getElem?_map, List.getElem?_map, en] at hdz
            cases hdz
            unfold wOf
            rw [show ((m : Int)).toNat = m from rfl, ett]
          subst edz
          have S10 := (S8.trans s9).trans s10
          have s410 := (s48.trans s9).trans s10
          obtain ⟨y, ey, hyt⟩ := (hy.same S10).at' ett
          obtain ⟨TT, rfl, eTT⟩ := hyt.tst
          obtain ⟨B, hB, hm, ew, k0, k1⟩ := winT_of hC (List.mem_of_getElem? ett) pp
          obtain ⟨jB, hj⟩ := List.getElem?_of_mem hB
          obtain ⟨vB, ev, hvB⟩ := hd4 jB B (List.getElem?_eq_some_iff.mp hj).1 hj
          have eL10 := S10 _ _ hL
          refine ⟨rfl, _, rfl, _, rfl, _, rfl, L, ys, (m : Int), .ref TT, rfl, rfl, SqL.of eL10, atI_nat ey, TT, _, 0, _, rfl, rfl, .inl (.inl eTT), atI_nat (j := 0) rfl, M, vB, rfl, ?_, _, rfl, _, rfl, _, rfl, L, ys, (m : Int), .ref TT, rfl, rfl, SqL.of eL10, atI_nat ey, TT, _, 1, _, rfl, rfl, .inl (.inl eTT), atI_nat (j := 1) rfl, vB, pp, tt.tin, B, cs, rfl, hvB.same s410, hC.bat B hB, k0, k1, fun y H4 s4 hy4 => ?_⟩
          · have z := DGet.k (k := Sum.inr tt.mark) (s410 _ _ eM4)
            rw [← hm, ev] at z
            rw [← hm]
            exact z
          · rw [← ew] at hy4
            exact kt2 _ _ s4 hy4.span
        · have nDW : D2 ∉ [W] := fun z => by
            rw [List.mem_singleton.mp z, eW9] at nD2
            cases nD2
          exact kt _ _ s10 ((ThgL.spans (cs' := [W]) h10).lst eD2 nDW)
      · obtain ⟨w1, r1, rfl, hw1, hr1⟩ := h9.inv
        obtain ⟨w2, r2, rfl, hw2, hr2⟩ := hr1.inv
        obtain rfl := hr2.inv0
        obtain ⟨A1, u1, rfl, eA1, _, hu1⟩ := hw1.list
        obtain ⟨A2, u2, rfl, eA2, _, hu2⟩ := hw2.list
        have lw : ∀ ns, (winsF bs ts pp ns).length = ns.length := fun ns => by unfold winsF; rw [List.length_map]
        have lu1 : u1.length = nb.length := by rw [hu1.1, List.length_map, lw]
        have lu2 : u2.length = ng.length := by rw [hu2.1, List.length_map, lw]
        have S9 := S8.trans s9
        have s49 := s48.trans s9
        have good : showsW bs ts pp nb ng = true → ∀ j, j < i + 1 → showsAt bs ts ps ds j = true := fun h j hj => by
          by_cases e : j = i
          · rw [e, eSA, h]
          · exact hall j (by omega)
        have dpB : Dp K H9 (.ref A1) (.list ((winsF bs ts pp nb).map spanD)) := ((hu1.less (cs' := []) (by simp)).lst eA1 (by simp)).dp
        refine ⟨_, rfl, W, _, 0, _, rfl, rfl, SqL.of eW, atI_nat (j := 0) rfl, .none, (winsF bs ts pp nb).map spanD, .non, dpB, by rfl, shaped_spans _, _, rfl, ite2 (fun c => ?_) (fun c => ?_)⟩
        · have hn := (none_in _).mp c
          have eW2 : showsW bs ts pp nb ng = (decide (1 ≤ (nb.length : Int)) && decide ((nb.length : Int) ≤ 2) && (decide ((nb.length : Int) = 1) && decide ((ng.length : Int) = 0))) := by
            unfold showsW
            rw [if_pos hn]
          have hpos : 0 < nb.length := by
            rw [← lw nb]
            exact List.length_pos_of_mem hn
          refine ⟨_, rfl, W, _, 0, _, rfl, rfl, SqL.of eW, atI_nat (j := 0) rfl, A1, u1, rfl, .inl (SqL.of eA1), _, _, rfl, rfl, _, rfl, ite2 (fun c1 => ?_) (fun c1 => ⟨_, rfl, W, _, 1, _, rfl, rfl, SqL.of eW, atI_nat (j := 1) rfl, A2, u2, rfl, .inl (SqL.of eA2), _, _, rfl, rfl, _, rfl, ite2 (fun c2 => ?_) (fun c2 => ?_)⟩)⟩
          · have c1 := of_decide_eq_true c1
            refine qb ?_ H9 S9
            rw [eW2, decide_eq_false (by omega : ¬ (nb.length : Int) = 1), Bool.false_and, Bool.and_false]
          · have c2 := of_decide_eq_true c2
            refine qb ?_ H9 S9
            rw [eW2, decide_eq_false (by omega : ¬ (ng.length : Int) = 0), Bool.and_false, Bool.and_false]
          · have c1 : ¬ (1 : Int) < (u1.length : Int) := fun z => c1 (decide_eq_true z)
            have c2 : ¬ (0 : Int) < (u2.length : Int) := fun z => c2 (decide_eq_true z)
            refine ⟨_, _, _, _, _, _, _, rfl, s49, good ?_⟩
            rw [eW2, decide_eq_true (by omega : (nb.length : Int) = 1), decide_eq_true (by omega : (ng.length : Int) = 0), decide_eq_true (by omega : 1 ≤ (nb.length : Int)), decide_eq_true (by omega : (nb.length : Int) ≤ 2)]
            rfl
        · have hn : none ∉ winsF bs ts pp nb := fun z => c ((none_in _).mpr z)
          obtain ⟨esp, el5⟩ := spans_some hn
          have eW2 : showsW bs ts pp nb ng = (decide (1 ≤ (nb.length : Int)) && decide ((nb.length : Int) ≤ 2) && (faultF ((winsF bs ts pp nb).filterMap id) ((winsF bs ts pp ng).filterMap id)).isEmpty) := by
            unfold showsW
            rw [if_neg hn]
          refine ⟨_, rfl, W, _, 0, _, rfl, rfl, SqL.of eW, atI_nat (j := 0) rfl, A1, u1, rfl, .inl (SqL.of eA1), _, _, rfl, rfl, _, rfl, ite2 (fun c1 => ⟨_, _, rfl, rfl, _, rfl, ?_⟩) (fun c1 => ?_)⟩
          rotate_left
          · have c1 : ¬ (0 : Int) < (u1.length : Int) := fun z => c1 (decide_eq_true z)
            refine ⟨_, rfl, iteT (qb ?_ H9 S9)⟩
            rw [eW2, decide_eq_false (by omega : ¬ 1 ≤ (nb.length : Int)), Bool.false_and, Bool.false_and]
          have c1 := of_decide_eq_true c1
          by_cases c2 : (u1.length : Int) < 3
          rotate_left
          · rw [decide_eq_false c2]
            refine iteT (qb ?_ H9 S9)
            rw [eW2, decide_eq_false (by omega : ¬ (nb.length : Int) ≤ 2), Bool.and_false, Bool.false_and]
          rw [decide_eq_true c2]
          have eW3 : showsW bs ts pp nb ng = (faultF ((winsF bs ts pp nb).filterMap id) ((winsF bs ts pp ng).filterMap id)).isEmpty := by
            rw [eW2, decide_eq_true (by omega : 1 ≤ (nb.length : Int)), decide_eq_true (by omega : (nb.length : Int) ≤ 2)]
            rfl
          refine iteF ⟨_, rfl, W, _, 0, _, rfl, rfl, SqL.of eW, atI_nat (j := 0) rfl, _, rfl, W, _, 1, _, rfl, rfl, SqL.of eW, atI_nat (j := 1) rfl, A2, rfl, ⟨_, SqL.of eA2⟩, fun D3 nD3 => lc_thgF (fun i => ((winsF bs ts pp ng)[i]?).bind fun o => o.map pairD) (walk_list (xs := u2)) [] nD3 (by omega) (fun H' s => SqL.of (s _ _ eA2)) (fun k z H10 H10' Kt Kn hk s10 hyy kt kn => ?_) (fun H10 vs10 s10 eD3 h10 => ?_)⟩
          · obtain ⟨rfl, hz⟩ := hyy
            obtain ⟨o, eo, ho⟩ := hu2.atM hz
            have ho := ho.same s10
            rw [eo] at kt kn
            cases o with
            | none =>
              obtain rfl := ho.inv_non
              exact ⟨rfl, _, rfl, rfl, _, rfl, iteF (kn _ rfl (Same.refl _))⟩
            | some w =>
              obtain ⟨T9, rfl, e9⟩ := ho.pair
              exact ⟨rfl, _, rfl, rfl, _, rfl, iteT ⟨_, rfl, kt _ _ _ rfl (Same.refl _) (Thg.span (o := some w) ho)⟩⟩
          · have h10 : ThgL [D3] H10 vs10 (((winsF bs ts pp ng).filterMap id).map pairD) := by
              rw [lu2, ← lw ng, range_bind, some_spans] at h10
              exact h10
            have hp1 : Prs H10 u1 ((winsF bs ts pp nb).filterMap id) := by
              rw [esp] at hu1
              exact (hu1.same s10).prs
            have lf := List.length_filterMap_le id (winsF bs ts pp ng)
            rw [lw] at lf
            refine ⟨A1, D3, u1, vs10, _, _, rfl, s10 _ _ eA1, hp1, ?_, by rw [el5, lw]; omega, eD3, h10.prs, fun r hr => ?_, by omega, fun H11 s11 => ⟨_, rfl, ?_⟩⟩
            · intro z
              have : (winsF bs ts pp nb).length = 0 := by rw [← el5, z]; rfl
              rw [lw] at this
              omega
            · obtain ⟨o, ho, e⟩ := List.mem_filterMap.mp hr
              have e : o = some r := e
              subst e
              unfold winsF at ho
              obtain ⟨n, hn', e⟩ := List.mem_map.mp ho
              exact win_span hC e
            · have S11 := (S9.trans s10).trans s11
              cases hf : (faultF ((winsF bs ts pp nb).filterMap id) ((winsF bs ts pp ng).filterMap id)).isEmpty with
              | true => exact iteF ⟨_, _, _, _, _, _, _, rfl, (s49.trans s10).trans s11, good (by rw [eW3, hf])⟩
              | false => exact iteT (qb (by rw [eW3, hf]) H11 S11)
    · obtain ⟨_, _, _, _, _, _, _, rfl, sx, hall⟩ := hP
      have q := q ps Hx (S4.trans sx) hps
      rw [(showsNB_some hr').mpr ⟨hlen, fun i hi => hall i (by rw [List.length_map]; exact hi)⟩] at q
      exact q
end

/-! ### a case with more tests -/
theorem Thg.keep2 {cs : List Addr} {H H' : Hp} {v : V} {d : PyData} (h : Thg cs H v d) (hl : ∀ a ∈ cs, ∃ xs, H a = some (.lst xs)) (k : ∀ a o, a ∉ cs → H a = some o → H' a = some o) : Thg cs H' v d :=
  h.ext (fun a xs n e => k a _ n e) fun a xs e => k a _ (fun z => by
    obtain ⟨ys, ey⟩ := hl a z
    rw [e] at ey
    cases ey) e
theorem ThgL.keep2 {cs : List Addr} {H H' : Hp} {xs : List V} {ds : List PyData} (h : ThgL cs H xs ds) (hl : ∀ a ∈ cs, ∃ xs, H a = some (.lst xs)) (k : ∀ a o, a ∉ cs → H a = some o → H' a = some o) : ThgL cs H' xs ds := ⟨h.1, fun i y d e1 e2 => (h.2 i y d e1 e2).keep2 hl k⟩
/-- tests have no lists -/
theorem ThgL.tsts {cs cs' : List Addr} {H : Hp} {ys : List V} {ts : List Tst} (h : ThgL cs H ys (ts.map tstD)) : ThgL cs' H ys (ts.map tstD) := ⟨h.1, fun i x d e1 e2 => by
  rw [List.getElem?_map] at e2
  obtain ⟨t, et, rfl⟩ := Option.map_eq_some_iff.mp e2
  obtain ⟨a, rfl, ea⟩ := (h.2 i x (tstD t) e1 (by rw [List.getElem?_map, et]; rfl)).tst
  exact ThgL.tup (.cons (.str _) (.cons (.int _) (.one (.str _)))) ea⟩
def spClash : Sp := fun vs H Q _ => ∃ (b : Addr) (t m : Int), vs = [.ref b, .int m] ∧ Bx b H t ∧ t + 300000 < 2 ^ 40 ∧ 0 < m ∧ m ≤ 40 ∧
  ∀ (T A L : Addr) us ys (bs : List Bat3) (ts : List Tst) t' H', H' T = some (.tup [.ref A, .ref L]) → H' A = some (.lst us) → A ≠ b → ThgL [b] H' us (bs.map batD) → H' L = some (.lst ys) → L ≠ b → ThgL [b] H' ys (ts.map tstD) → CaseOk bs ts → Sm8 bs → bs ≠ [] → (∃ t ∈ ts, t.bad = true) → t ≤ t' → t' ≤ t + 50000 → Bx b H' t' → Kb b H H' → Q (.ref T) H'
abbrev sClash : Stmt := topS 42
theorem scClash : FnScope ["_law_box_here", "_law_most", "_law_places_here", "_law_batches_here", "_law_tests_here", "_law_turn", "_law_batch"] ["_law_box_here", "_law_most"] (defScope sClash) := ⟨rfl, rfl, rfl, by decide +kernel, rfl, by decide +kernel, by decide +kernel⟩
section
variable {K : PySem.W.Frag} {mg : Str → Option Value} {P : Program} {w : World} {base : Heap}
theorem ok_Clash {f : Addr} {fd : FuncData} (F : Fun K "_law_clash" "_law_clash" sClash f fd) (C__law_names : Cal P w K mg base 2 "_law_names" ["_law_box_here", "_law_many"] spNames3) (C__law_take : Cal P w K mg base 1 "_law_take" ["_law_box_here", "_law_many"] spTakeB) (C__law_batches : Cal P w K mg base 3 "_law_batches" ["_law_box_here", "_law_places_here", "_law_many"] spBats3) (C__law_tests : Cal P w K mg base 2 "_law_tests" ["_law_box_here", "_law_batches_here", "_law_places_here", "_law_most"] spTests3) (m_range : mg "range" = none) (m_len : mg "len" = none) : FnOk P w K mg base CX0 4 f fd ["_law_box_here", "_law_most"] spClash := by
  refine F.ok scClash (fun vs H Q E h => ?_) (fun cdv A outer s H vs Q E hr h => ?_)
  · obtain ⟨b, t, m, rfl, _⟩ := h
    rfl
  · obtain ⟨b, t, m, rfl, hS, ht, hm0, hm1, q⟩ := h
    refine ⟨_, pss_cons (ps_set (i := 2) scClash.nd rfl (.inl rfl) (pe_own C__law_names (hr.mono (show 2 ≤ 3 by decide)) (by rfl) (pa_cons (pv 0) (pa_cons (pe_op op_add pe_int (pe_own C__law_take (hr.mono (show 1 ≤ 3 by decide)) (by rfl) (pa_cons (pv 0) (pa_cons pe_int pa_nil)))) pa_nil))))
      (pss_cons (ps_set (i := 3) scClash.nd rfl (.inl rfl) (pe_own C__law_batches hr (by rfl) (pa_cons (pv 0) (pa_cons (pv 2) (pa_cons (pe_op op_add pe_int (pe_own C__law_take (hr.mono (show 1 ≤ 3 by decide)) (by rfl) (pa_cons (pv 0) (pa_cons pe_int pa_nil)))) pa_nil)))))
      (pss_cons (ps_set (i := 4) scClash.nd rfl (.inl rfl) (pe_own C__law_tests (hr.mono (show 2 ≤ 3 by decide)) (by rfl) (pa_cons (pv 0) (pa_cons (pv 3) (pa_cons (pv 2) (pa_cons (pv 1) pa_nil))))))
      (pss_cons (ps_for PassesOwn.never rfl (pi_range1 rfl m_range (pa_cons (pe_own C__law_take (hr.mono (show 1 ≤ 3 by decide)) (by rfl) (pa_cons (pv 0) (pa_cons pe_int pa_nil))) pa_nil)) (pg_name (i := 5) scClash.nd rfl (.inl rfl))
        (pss_cons (ps_set (i := 6) scClash.nd rfl (.inl rfl) (pe_ix ix_list (pv 3) (pe_own C__law_take (hr.mono (show 1 ≤ 3 by decide)) (by rfl) (pa_cons (pv 0) (pa_cons (pe_callB call_len_seq (by rfl) m_len PySem.boot_len (pa_cons (pv 3) pa_nil)) pa_nil))) (fun _ _ => rfl)))
        (pss_one (ps_expr (pe_bm PySem.F.plainAttrs_list PySem.F.slot_list_append PySem.F.type_list_append mt_append (pv 4) (pa_cons (pe_tup (pa_cons (pe_ix ix_tup (pv 6) pe_int (fun _ _ => rfl)) (pa_cons (pe_own C__law_take (hr.mono (show 1 ≤ 3 by decide)) (by rfl) (pa_cons (pv 0) (pa_cons (pe_ix ix_tup (pv 6) pe_int (fun _ _ => rfl)) pa_nil))) (pa_cons (pe_ix ix_list (pe_lst (pa_cons pe_str (pa_cons pe_str pa_nil))) (pe_own C__law_take (hr.mono (show 1 ≤ 3 by decide)) (by rfl) (pa_cons (pv 0) (pa_cons pe_int pa_nil))) (fun _ _ => rfl)) pa_nil)))) pa_nil))))))
      (pss_one (ps_ret (pe_tup (pa_cons (pv 3) (pa_cons (pv 4) pa_nil)))))))), ?_⟩
    refine ⟨_, rfl, _, rfl, b, t, 4, rfl, hS, by omega, by decide, by decide, fun r1 t1 H1 r10 r11 u0 u1 hS1 k1 => ⟨_, _, rfl, rfl, b, t1, 1 + r1, rfl, hS1, by omega, by omega, by omega, fun G ps t2 H2 nG eG hpo hpl u2 u3 hS2 k2 => ?_⟩⟩
    have offG := hS1.off nG
    have hpn : ps ≠ [] := fun z => by rw [z] at hpl; have : (0 : Int) = 1 + r1 := hpl; omega
    refine ⟨_, rfl, _, rfl, _, rfl, b, t2, 4, rfl, hS2, by omega, by decide, by decide, fun r3 t3 H3 r30 r31 u4 u5 hS3 k3 => ⟨_, _, rfl, rfl, b, G, t3, 1 + r3, ps, rfl, hS3, by omega, by omega, by omega, k3 _ _ offG eG, offG, by omega, hpo, fun v bs t4 H4 hv hbo hnd hbl u6 u7 hS4 k4 => ?_⟩⟩
    obtain ⟨A, us, rfl, eA, hAb, hu⟩ := hv.list
    have hAb : A ≠ b := fun z => hAb (by simp [z])
    have hne : bs ≠ [] := fun z => by rw [z] at hbl; have : (0 : Int) = 1 + r3 := hbl; omega
    have eG4 := k4 _ _ offG (k3 _ _ offG eG)
    refine ⟨_, rfl, _, rfl, _, rfl, _, rfl, b, A, G, t4, m, us, bs, ps, rfl, hS4, by omega, hm0, by omega, eA, hAb, hu, hne, by omega, (fun B hB => (hbo B hB).1), eG4, offG, hpn, by omega, fun F ys ts t5 H5 nF eF hy hto hbad htl u8 u9 hS5 k5 => ?_⟩
    have offF := hS4.off nF
    have hAF : A ≠ F := fun z => by rw [z, nF] at eA; cases eA
    refine ⟨_, rfl, b, t5, 6, rfl, hS5, by omega, by decide, by decide, fun r6 t6 H6 r60 r61 w0 w1 hS6 k6 => ⟨_, rfl, by omega, by omega, ?_⟩⟩
    have hul : us.length = bs.length := by rw [hu.1, List.length_map]
    have hbp : 0 < bs.length := List.length_pos_iff.mpr hne
    have hu6 : ThgL [F, b] H6 us (bs.map batD) := ((hu.more nF).kb hS4 k5 (by simp)).kb hS5 k6 (by simp)
    have eF6 := k6 _ _ offF eF
    have eA6 := k6 _ _ hAb (k5 _ _ hAb eA)
    have hl6 : ∀ a ∈ [F, b], ∃ xs, H6 a = some (.lst xs) := fun a z => by
      obtain ⟨_, _, eb, _⟩ := hS6.at_
      rcases List.mem_cons.mp z with rfl | z
      · exact ⟨_, eF6⟩
      · rw [List.mem_singleton.mp z]
        exact ⟨_, eb⟩
    refine for_range (n := r6.toNat) (fun i σ Hx => ∃ (t' : Int) (ws : List V) (ts' : List Tst) (y5 y6 : Option V), σ = [some (.ref b), some (.int m), some (.ref G), some (.ref A), some (.ref F), y5, y6] ∧ Hx F = some (.lst ws) ∧ ThgL [F, b] Hx ws (ts'.map tstD) ∧ ts'.length = ts.length + i ∧ (∀ t ∈ ts', TstOk bs t) ∧ (∃ t ∈ ts', t.bad = true) ∧ t6 ≤ t' ∧ t' ≤ t6 + 3 * (i : Int) ∧ Bx b Hx t' ∧ (∀ a o, a ∉ [F, b] → H6 a = some o → Hx a = some o))
      ⟨t6, ys, ts, _, _, rfl, eF6, (hy.kb hS5 k6 (by simp)).tsts, rfl, hto, hbad, by omega, by omega, hS6, fun _ _ _ e => e⟩ (fun i σ Hx hi hP => ?_) (fun σ Hx hP => ?_)
    · obtain ⟨t', ws, ts', y5, y6, rfl, eFx, hw, htl', hto', hbad', v0, v1, hSx, kx⟩ := hP
      have hi6 : (i : Int) < 6 := by omega
      have nAc : A ∉ [F, b] := by simp [hAF, hAb]
      have eAx := kx _ _ nAc eA6
      refine ⟨_, rfl, _, rfl, _, rfl, A, us, rfl, .inl (SqL.of eAx), b, t', _, rfl, hSx, by omega, by omega, by omega, fun r7 t7 H7 r70 r71 x0 x1 hS7 k7 => ?_⟩
      obtain ⟨j, rfl⟩ := Int.eq_ofNat_of_zero_le r70
      have jl : j < bs.length := by omega
      have hu7 := (hu6.keep2 hl6 kx).kb hSx k7 (by simp)
      obtain ⟨x, ex, hx⟩ := hu7.at' (List.getElem?_eq_getElem jl)
      refine ⟨A, us, _, x, rfl, rfl, SqL.of (k7 _ _ hAb eAx), atI_nat ex, ?_⟩
      obtain ⟨c, l', xs', rfl, ec, _⟩ := hx.batL
      have hBo := hbo _ (List.getElem_mem jl)
      have hB1 := hBo.1.2.1
      have hB2 := hBo.1.2.2.1
      have eF7 := k7 _ _ offF eFx
      refine ⟨_, rfl, .inl ⟨rfl, _, SqL.of eF7⟩, _, rfl, c, _, 0, _, rfl, rfl, .inl (.inl ec), atI_nat (j := 0) rfl, _, rfl, _, rfl, c, _, 1, _, rfl, rfl, .inl (.inl ec), atI_nat (j := 1) rfl, b, t7, _, rfl, hS7, by omega, by omega, Big.lt (by omega) hB2, fun k t8 H8 k0 k1' x2 x3 hS8 k8 => ⟨(by show 2 ≤ sizeLine; decide), fun Y nY => ⟨_, rfl, b, t8, 2, rfl, hS8.same (same_upd nY), by omega, by decide, by decide, fun r9 t9 H9 r90 r91 x4 x5 hS9 k9 => ?_⟩⟩⟩
      have sY := same_upd (o := .lst [.str "bad", .str "good"]) nY
      obtain ⟨bb, ebb⟩ : ∃ bb : Bool, ([V.str "bad", .str "good"] : List V)[r9.toNat]? = some (.str (wordD bb)) := by
        rcases (by omega : r9 = 0 ∨ r9 = 1) with rfl | rfl
        · exact ⟨true, rfl⟩
        · exact ⟨false, rfl⟩
      have eY9 : H9 Y = some (.lst [.str "bad", .str "good"]) := k9.new (hS8.off nY)
      have at9 : r9 = ((r9.toNat : Nat) : Int) := by omega
      refine ⟨Y, _, _, .str (wordD bb), rfl, rfl, SqL.of eY9, by rw [at9]; exact atI_nat ebb, (by show 3 ≤ sizeLine; decide), fun T nT => ?_⟩
      have sT := same_upd (o := .tup [.str bs[j].mark, .int k, .str (wordD bb)]) nT
      have k79 : Kb b H7 H9 := (k8.trans (Kb.same sY)).trans k9
      have hw9 : ThgL [F, b] H9 ws (ts'.map tstD) := (hw.kb hSx (k7.trans k79) (by simp))
      have hw10 := hw9.same sT
      have eF9 := sT _ _ (k79 _ _ offF eF7)
      have hT : Thg [F, b] (upd H9 T (.tup [.str bs[j].mark, .int k, .str (wordD bb)])) (.ref T) (tstD ⟨bs[j].mark, k, bb⟩) := ThgL.tup (.cons (.str _) (.cons (.int _) (.one (.str _)))) upd_same
      have hwl : ws.length = ts'.length := by rw [hw.1, List.length_map]
      refine ⟨F, _, _, rfl, rfl, eF9, small1000 (by omega), t9, ws ++ [.ref T], ts' ++ [⟨bs[j].mark, k, bb⟩], _, _, rfl, upd_same, ?_, by rw [List.length_append, htl']; rfl, fun t0 ht0 => ?_, ?_, by omega, by omega, (hS9.same sT).upd offF, fun a' o na ea => ?_⟩
      · rw [List.map_append]
        exact (hw10.upd eF9 (by simp)).append (ThgL.one (hT.upd eF9 (by simp)))
      · rcases List.mem_append.mp ht0 with z | z
        · exact hto' t0 z
        · rw [List.mem_singleton.mp z]
          exact ⟨bs[j], List.getElem_mem jl, rfl, k0, k1'⟩
      · obtain ⟨t0, h0, hb0⟩ := hbad'
        exact ⟨t0, List.mem_append_left _ h0, hb0⟩
      · have naF : a' ≠ F := fun z => na (by simp [z])
        have nab : a' ≠ b := fun z => na (by simp [z])
        rw [upd_ne naF]
        exact sT _ _ (k79 _ _ nab (k7 _ _ nab (kx a' o na ea)))
    · obtain ⟨t', ws, ts', y5, y6, rfl, eFx, hw, htl', hto', hbad', v0, v1, hSx, kx⟩ := hP
      have hi6 : ((r6.toNat : Nat) : Int) < 6 := by omega
      have nAc : A ∉ [F, b] := by simp [hAF, hAb]
      refine ⟨_, rfl, _, rfl, (by show 2 ≤ sizeLine; decide), fun T nT => ?_⟩
      have sT := same_upd (o := .tup [.ref A, .ref F]) nT
      have h8 : Sm8 bs := sm8_of (by omega) hbo
      have hCase : CaseOk bs ts' := {
        nd := hnd
        bat := fun B hB => (hbo B hB).1
        bl := by omega
        few := by
          refine ⟨bs.flatMap fun B => B.pas.map Pas3.pl, ?_, fun x ⟨B, hB, q', hq, e⟩ => List.mem_flatMap.mpr ⟨B, hB, List.mem_map.mpr ⟨q', hq, e⟩⟩⟩
          have := take_len5 h8.pl
          omega
        tst := hto'
        tl := by omega }
      have k06 : Kb b H H6 := (((((k1.trans k2).trans k3).trans k4).trans k5).trans k6)
      have nFH : H F = none := (((k1.trans k2).trans k3).trans k4).free hS4 nF
      exact q T A F us ws bs ts' t' _ upd_same (sT _ _ (kx _ _ nAc eA6)) hAb (((hu6.keep2 hl6 kx).less (by simp)).same sT) (sT _ _ eFx) offF ((hw.less (by simp)).same sT) hCase h8 hne hbad' (by omega) (by omega) (hSx.same sT) fun a o na ea => sT _ _ (kx _ _ (by
        simp only [List.mem_cons, List.not_mem_nil, or_false, not_or]
        exact ⟨(fun z => by rw [z, nFH] at ea; cases ea), na⟩) (k06 a o na ea))
end

/-! ### min of pairs -/
def lexLe (p q : Int × Int) : Prop := p.1 < q.1 ∨ (p.1 = q.1 ∧ p.2 ≤ q.2)
instance (p q : Int × Int) : Decidable (lexLe p q) := by unfold lexLe; infer_instance
theorem lexLe.refl (p : Int × Int) : lexLe p p := .inr ⟨rfl, Int.le_refl _⟩
theorem lexLe.trans {p q r : Int × Int} (h : lexLe p q) (h' : lexLe q r) : lexLe p r := by
  unfold lexLe at *
  omega
theorem lexLe.total {p q : Int × Int} (h : ¬ lexLe p q) : lexLe q p := by
  unfold lexLe at *
  omega
theorem lt_pairs (p q : Int × Int) : PySem.W.dataLt (pairD q) (pairD p) = !decide (lexLe p q) := by
  have h := congrFun (congrFun (PySem.W.dataLe_ii (fun x : Int × Int => x.1) (fun x : Int × Int => x.2)) p) q
  have h' : (!PySem.W.dataLt (pairD q) (pairD p)) = decide (p.1 < q.1 ∨ (p.1 = q.1 ∧ p.2 ≤ q.2)) := h
  have e : decide (lexLe p q) = decide (p.1 < q.1 ∨ (p.1 = q.1 ∧ p.2 ≤ q.2)) := by unfold lexLe; rfl
  rw [e, ← h', Bool.not_not]
theorem min_pairs : ∀ (ps : List (Int × Int)) (p : Int × Int), ∃ m, m ∈ p :: ps ∧ (∀ q ∈ p :: ps, lexLe m q) ∧ PySem.W.minD (pairD p) (ps.map pairD) = pairD m
  | [], p => ⟨p, List.mem_cons_self .., fun q hq => by rw [List.mem_singleton.mp hq]; exact lexLe.refl p, rfl⟩
  | q :: ps, p => by
    have e : PySem.W.minD (pairD p) ((q :: ps).map pairD) = PySem.W.minD (if PySem.W.dataLt (pairD q) (pairD p) then pairD q else pairD p) (ps.map pairD) := rfl
    rw [e, lt_pairs p q]
    by_cases c : lexLe p q
    · rw [decide_eq_true c]
      obtain ⟨m, h1, h2, h3⟩ := min_pairs ps p
      refine ⟨m, ?_, fun x hx => ?_, h3⟩
      · rcases List.mem_cons.mp h1 with z | z
        · rw [z]; exact List.mem_cons_self ..
        · exact List.mem_cons_of_mem _ (List.mem_cons_of_mem _ z)
      · rcases List.mem_cons.mp hx with z | z
        · rw [z]; exact h2 p (List.mem_cons_self ..)
        · rcases List.mem_cons.mp z with y | y
          · rw [y]; exact (h2 p (List.mem_cons_self ..)).trans c
          · exact h2 x (List.mem_cons_of_mem _ y)
    · rw [decide_eq_false c]
      obtain ⟨m, h1, h2, h3⟩ := min_pairs ps q
      refine ⟨m, List.mem_cons_of_mem _ h1, fun x hx => ?_, h3⟩
      rcases List.mem_cons.mp hx with z | z
      · rw [z]; exact (h2 q (List.mem_cons_self ..)).trans (lexLe.total c)
      · exact h2 x z
theorem Reads.int_inj {h : Heap} {v : Value} {i j : Int} {as : List Addr} (r : Reads h v (.int j) as) (e : ∃ t, v = .int i t) : i = j := by
  obtain ⟨t, rfl⟩ := e
  cases r
  rfl
theorem reads_prs {X : Cx} {pins : List (Addr × Obj)} {σ : L2.St} {H : Hp} {s : Shared} (I : Inv X pins σ H s) : ∀ {us : List V} {ps : List (Int × Int)} {its : List Value}, Prs H us ps → Vals us its → ReadsAll s.heap its (ps.map pairD) []
  | [], [], _, _, .nil => .nil
  | [], _ :: _, _, h, _ => nomatch h.1
  | _ :: _, [], _, h, _ => nomatch h.1
  | u :: us, p :: ps, _, h, .cons (b := b) r t => by
    obtain ⟨a, e1, e2⟩ := h.2 0 p rfl
    have eu : u = .ref a := Option.some.inj e1
    subst eu
    cases r
    obtain ⟨ta, tb, hT⟩ := pair_in I e2
    have rest := reads_prs I (ps := ps) ⟨Nat.succ.inj h.1, fun i q e => h.2 (i + 1) q e⟩ t
    obtain ⟨o, ho, hc, n, hd⟩ := hT
    exact .cons (as := []) (.tuple ho hc hd (.cons (.int _ _) (.cons (.int _ _) .nil))) rest
def rMinP : List V → Hp → VK → Prop := fun vs H Q => ∃ (a : Addr) (us : List V) (ps : List (Int × Int)), vs = [V.ref a] ∧ H a = some (.lst us) ∧ Prs H us ps ∧ ps ≠ [] ∧ ∀ p T, p ∈ ps → (∀ q ∈ ps, lexLe p q) → H T = some (.tup [.int p.1, .int p.2]) → Q (.ref T) H
theorem cr_minP {X : Cx} (hc : X.calm = true) (hu : X.A.units + 64 < cLine) : CallR X (.builtin "min") rMinP := fun pins s σ H vs us Q I r h => by
  obtain ⟨a, ws, ps, rfl, ha, hp, hne, q⟩ := h
  obtain ⟨its, rv, hl, hz⟩ := I.list (SqL.of ha)
  rw [Vals.ref1 r]
  cases ps with
  | nil => exact absurd rfl hne
  | cons p ps =>
    have hr := reads_prs I hp rv
    refine PySem.W.min_list_data (x := pairD p) (xs := ps.map pairD) (I.ok.hd hc) hl.isList (by simpa using hr) ?_ ?_ fun i v h' tk bs hv hR hk => ?_
    · have e : pairD p :: List.map pairD ps = (p :: ps).map pairD := rfl
      rw [e]
      refine ⟨fun x hx y hy => ?_, fun x hx => ?_⟩
      · obtain ⟨x', _, rfl⟩ := List.mem_map.mp hx
        obtain ⟨y', _, rfl⟩ := List.mem_map.mp hy
        simp [pairD, PySem.W.alike, PySem.W.alikeAll]
      · obtain ⟨x', _, rfl⟩ := List.mem_map.mp hx
        exact fun z => nomatch z
    · have := depth_prs (p :: ps)
      rw [List.map_cons] at this
      omega
    · obtain ⟨m, m1, m2, m3⟩ := min_pairs ps p
      rw [m3] at hR
      have hv' : its[i]? = some v := by simpa using hv
      have hi : i < ws.length := by rw [rv.length]; exact (List.getElem?_eq_some_iff.mp hv').1
      obtain ⟨g, T, eg, ew, eT⟩ := prs_at hp (List.getElem?_eq_getElem hi)
      obtain ⟨u, hu', ru⟩ := rv.get (List.getElem?_eq_getElem hi)
      rw [hv'] at hu'
      cases hu'
      rw [ew] at ru
      cases ru
      obtain ⟨ta, tb, o, ho, hcl, n, hd⟩ := pair_in I eT
      have gm : g = m := by
        cases hR with
        | tuple ho' hc' hd' rr =>
          rw [hk _ _ ho] at ho'
          cases ho'
          rw [hd] at hd'
          cases hd'
          cases rr with
          | cons r1 rr =>
            cases rr with
            | cons r2 rr =>
              exact Prod.ext (Reads.int_inj r1 ⟨_, rfl⟩) (Reads.int_inj r2 ⟨_, rfl⟩)
      rw [gm] at eT
      exact ⟨.ref T, H, I.kept hk, rfl, q m T m1 m2 eT⟩

/-! ### max of pairs -/
theorem u64 {k : Nat} {A : Around} (r : Room k A) : A.units + 64 < cLine := by have := r.un; omega
theorem max_pairs : ∀ (ps : List (Int × Int)) (p : Int × Int), ∃ m, m ∈ p :: ps ∧ (∀ q ∈ p :: ps, lexLe q m) ∧ PySem.W.maxD (pairD p) (ps.map pairD) = pairD m
  | [], p => ⟨p, List.mem_cons_self .., fun q hq => by rw [List.mem_singleton.mp hq]; exact lexLe.refl p, rfl⟩
  | q :: ps, p => by
    have e : PySem.W.maxD (pairD p) ((q :: ps).map pairD) = PySem.W.maxD (if PySem.W.dataLt (pairD p) (pairD q) then pairD q else pairD p) (ps.map pairD) := rfl
    rw [e, lt_pairs q p]
    by_cases c : lexLe q p
    · rw [decide_eq_true c]
      obtain ⟨m, h1, h2, h3⟩ := max_pairs ps p
      refine ⟨m, ?_, fun x hx => ?_, h3⟩
      · exact (List.mem_cons.mp h1).elim (fun z => by rw [z]; exact List.mem_cons_self ..) fun z => List.mem_cons_of_mem _ (List.mem_cons_of_mem _ z)
      · rcases List.mem_cons.mp hx with z | z
        · rw [z]; exact h2 p (List.mem_cons_self ..)
        · rcases List.mem_cons.mp z with y | y
          · rw [y]; exact c.trans (h2 p (List.mem_cons_self ..))
          · exact h2 x (List.mem_cons_of_mem _ y)
    · rw [decide_eq_false c]
      obtain ⟨m, h1, h2, h3⟩ := max_pairs ps q
      refine ⟨m, List.mem_cons_of_mem _ h1, fun x hx => ?_, h3⟩
      rcases List.mem_cons.mp hx with z | z
      · rw [z]; exact (lexLe.total c).trans (h2 q (List.mem_cons_self ..))
      · exact h2 x z
def rMaxP : List V → Hp → VK → Prop := fun vs H Q => ∃ (a : Addr) (us : List V) (ps : List (Int × Int)), vs = [V.ref a] ∧ H a = some (.lst us) ∧ Prs H us ps ∧ ps ≠ [] ∧ ∀ p T, p ∈ ps → (∀ q ∈ ps, lexLe q p) → H T = some (.tup [.int p.1, .int p.2]) → Q (.ref T) H
theorem cr_maxP {X : Cx} (hc : X.calm = true) (hu : X.A.units + 64 < cLine) : CallR X (.builtin "max") rMaxP := fun pins s σ H vs us Q I r h => by
  obtain ⟨a, ws, ps, rfl, ha, hp, hne, q⟩ := h
  obtain ⟨its, rv, hl, hz⟩ := I.list (SqL.of ha)
  rw [Vals.ref1 r]
  cases ps with
  | nil => exact absurd rfl hne
  | cons p ps =>
    have hr := reads_prs I hp rv
    refine PySem.W.max_list_data (x := pairD p) (xs := ps.map pairD) (I.ok.hd hc) hl.isList (by simpa using hr) ?_ ?_ fun i v h' tk bs hv hR hk => ?_
    · have e : pairD p :: List.map pairD ps = (p :: ps).map pairD := rfl
      rw [e]
      refine ⟨fun x hx y hy => ?_, fun x hx => ?_⟩
      · obtain ⟨x', _, rfl⟩ := List.mem_map.mp hx
        obtain ⟨y', _, rfl⟩ := List.mem_map.mp hy
        simp [pairD, PySem.W.alike, PySem.W.alikeAll]
      · obtain ⟨x', _, rfl⟩ := List.mem_map.mp hx
        exact fun z => nomatch z
    · have := depth_prs (p :: ps)
      rw [List.map_cons] at this
      omega
    · obtain ⟨m, m1, m2, m3⟩ := max_pairs ps p
      rw [m3] at hR
      have hv' : its[i]? = some v := by simpa using hv
      have hi : i < ws.length := by rw [rv.length]; exact (List.getElem?_eq_some_iff.mp hv').1
      obtain ⟨g, T, eg, ew, eT⟩ := prs_at hp (List.getElem?_eq_getElem hi)
      obtain ⟨u, hu', ru⟩ := rv.get (List.getElem?_eq_getElem hi)
      rw [hv'] at hu'
      cases hu'
      rw [ew] at ru
      cases ru
      obtain ⟨ta, tb, o, ho, hcl, n, hd⟩ := pair_in I eT
      have gm : g = m := by
        cases hR with
        | tuple ho' hc' hd' rr =>
          rw [hk _ _ ho] at ho'
          cases ho'
          rw [hd] at hd'
          cases hd'
          cases rr with
          | cons r1 rr =>
            cases rr with
            | cons r2 rr =>
              exact Prod.ext (Reads.int_inj r1 ⟨_, rfl⟩) (Reads.int_inj r2 ⟨_, rfl⟩)
      rw [gm] at eT
      exact ⟨.ref T, H, I.kept hk, rfl, q m T m1 m2 eT⟩

theorem two_len {nb : List Int} {i j : Int} (hp : nb.Pairwise (· < ·)) (hm : ∀ k, k ∈ nb ↔ k = i ∨ k = j) : 1 ≤ nb.length ∧ nb.length ≤ 2 := by
  refine ⟨List.length_pos_of_mem ((hm i).mpr (.inl rfl)), ?_⟩
  match nb, hp, hm with
  | [], _, _ => exact Nat.zero_le _
  | [_], _, _ => exact Nat.le_succ _
  | [_, _], _, _ => exact Nat.le_refl _
  | x :: y :: z :: r, hp, hm =>
    exfalso
    obtain ⟨h1, h2⟩ := List.pairwise_cons.mp hp
    obtain ⟨h3, _⟩ := List.pairwise_cons.mp h2
    have a1 := h1 y (by simp)
    have a2 := h3 z (by simp)
    have b1 := (hm x).mp (by simp)
    have b2 := (hm y).mp (by simp)
    have b3 := (hm z).mp (by simp)
    omega

/-! ### comprehensions by what each thing is -/
theorem lc_intsP (Pr : Int → Prop) {J : It} {n : Nat} {G : Hp → Prop} {Y : Nat → Hp → V → Hp → Prop} (w : Walk J n G Y) {g : TG} {tt : TT} {te : TE} {vs : List Nat} {σ : L2.St} {H1 : Hp} {D : Addr} {Qd : Hp → Prop} (nD : H1 D = none) (hz : n ≤ 900) (hG : ∀ H, Same H1 H → G H)
    (turn : ∀ i x H H' (Kt : V → Hp → Prop) (Kn : Hp → Prop), i < n → Same H1 H → Y i H x H' → (∀ k H4, Pr k → Same H H4 → Kt (.int k) H4) → (∀ H4, Same H H4 → Kn H4) → g x (wipe σ vs) H' fun σ2 H2 => wipe σ2 vs = wipe σ vs ∧ tt σ2 H2 fun b H3 => if b = true then te σ2 H3 Kt else Kn H3)
    (fin : ∀ H (ks : List Int), Same H1 H → H D = some (.lst (ks.map V.int)) → (∀ k ∈ ks, Pr k) → ks.length ≤ n → Qd H) : LcW J g tt te vs σ D Qd H1 := by
  refine lc_it w (fun j H => Same H1 H ∧ ∃ ks : List Int, H D = some (.lst (ks.map V.int)) ∧ (∀ k ∈ ks, Pr k) ∧ ks.length ≤ j) ⟨same_upd nD, [], upd_same, (fun _ z => nomatch z), Nat.le_refl _⟩ (fun i H _ p => hG H p.1) (fun i x H H' hi hP hy => ?_) (fun H hP => let ⟨s, ks, e, h, l⟩ := hP; fin H ks s e h l)
  obtain ⟨sm, ks, eD, hk, hl⟩ := hP
  refine turn i x H H' _ _ hi sm hy (fun k H4 hp s4 => ⟨_, s4 _ _ eD, by rw [List.length_map]; exact small1000 (by omega), fun b o e => ?_, ks ++ [k], by rw [upd_same, List.map_append]; rfl, fun k' hk' => ?_, by rw [List.length_append]; exact Nat.succ_le_succ hl⟩) (fun H4 s4 => ⟨sm.trans s4, ks, s4 _ _ eD, hk, Nat.le_succ_of_le hl⟩)
  · rw [upd_ne (ne_of_none e nD)]
    exact s4 _ _ (sm b o e)
  · rcases List.mem_append.mp hk' with z | z
    · exact hk k' z
    · rw [List.mem_singleton.mp z]
      exact hp
/-! ### what shows it, of the law's own -/
abbrev Trip3 := Str × List Int × List Int
def trip3D (r : Trip3) : PyData := .tuple [.str r.1, .list (r.2.1.map PyData.int), .list (r.2.2.map PyData.int)]
def Trip3Ok (m : Nat) (n : Int) (r : Trip3) : Prop := TxS 20 r.1 ∧ r.2.1.length ≤ m ∧ r.2.2.length ≤ m ∧ (∀ k ∈ r.2.1, 0 ≤ k ∧ k < n) ∧ (∀ k ∈ r.2.2, 0 ≤ k ∧ k < n)
theorem place_tx {bs : List Bat3} {ts : List Tst} (hC : CaseOk bs ts) {p : Str} (h : PlaceP bs p) : TxS 20 p := by
  obtain ⟨B, hB, q, hq, rfl⟩ := h
  have := (hC.bat B hB).2.2.2.2 q hq
  cases q with
  | line p s l b => exact this.1
  | racks p per st => exact this.1
theorem nd_lenO {α : Type} [DecidableEq α] : ∀ {xs ys : List α}, xs.Nodup → (∀ x ∈ xs, x ∈ ys) → xs.length ≤ ys.length
  | [], _, _, _ => Nat.zero_le _
  | x :: r, ys, h, s => by
    have hx := s x (List.mem_cons_self ..)
    have := nd_lenO (xs := r) (ys := ys.erase x) (List.nodup_cons.mp h).2 fun y hy => (List.mem_erase_of_ne (fun e : y = x => (List.nodup_cons.mp h).1 (e ▸ hy))).mpr (s y (List.mem_cons_of_mem _ hy))
    rw [List.length_erase_of_mem hx] at this
    have := List.length_pos_of_mem hx
    rw [List.length_cons]
    omega
theorem places_fewO {bs : List Bat3} {ts : List Tst} {ps : List Str} (hC : CaseOk bs ts) (hps : SrtT (PlaceP bs) ps) : ps.length < 64 := by
  obtain ⟨zs, h1, h2⟩ := hC.few
  exact Nat.lt_of_le_of_lt (nd_lenO hps.nd fun x hx => h2 x ((hps.mem x).mp hx)) h1
theorem places_25 {bs : List Bat3} {ps : List Str} (h : Sm8 bs) (hps : SrtT (PlaceP bs) ps) : ps.length ≤ 25 := by
  have h1 := take_len5 h.pl
  have h2 := h.bl
  refine Nat.le_trans (nd_lenO hps.nd (ys := bs.flatMap fun B => B.pas.map Pas3.pl) fun x hx => ?_) (by omega)
  obtain ⟨B, hB, q, hq, rfl⟩ := (hps.mem x).mp hx
  exact List.mem_flatMap.mpr ⟨B, hB, List.mem_map.mpr ⟨q, hq, rfl⟩⟩
def badD (x : Option (Int × Int) × Int) : PyData := .tuple [spanD x.1, .int x.2]
theorem Thg.badX {cs : List Addr} {H : Hp} {v : V} {x : Option (Int × Int) × Int} (h : Thg cs H v (badD x)) : ∃ T y, v = .ref T ∧ H T = some (.tup [y, .int x.2]) ∧ Thg [] H y (spanD x.1) := by
  obtain ⟨T, xs, rfl, e, h1⟩ := h.tuple
  obtain ⟨y, ys, rfl, h2, h3⟩ := h1.inv
  obtain ⟨z, zs, rfl, h4, h5⟩ := h3.inv
  rw [h5.inv0, h4.inv_int] at e
  exact ⟨T, y, rfl, e, h2.span⟩
theorem away_eq : ∀ bl : List (Option (Int × Int) × Int), bl.filterMap (fun x => if x.1.isNone = true then some (PyData.int x.2) else none) = (bl.filterMap fun x => if x.1.isNone = true then some x.2 else none).map PyData.int
  | [] => rfl
  | x :: r => by
    have ih := away_eq r
    rw [List.filterMap_cons, List.filterMap_cons]
    cases x.1 with
    | none => exact congrArg (PyData.int x.2 :: ·) ih
    | some _ => exact ih
theorem ThgL.kpB {Bd : Addr} {cs : List Addr} {H H' : Hp} {w xs : List V} {ds : List PyData} (h : ThgL (Bd :: cs) H xs ds) (eB : H Bd = some (.lst w)) (k : ∀ c o, c ≠ Bd → H c = some o → H' c = some o) : ThgL (Bd :: cs) H' xs ds := ⟨h.1, fun i y d e1 e2 => (h.2 i y d e1 e2).ext (fun a xs n e => k a _ (fun z => n (z ▸ List.mem_cons_self ..)) e) fun a xs e => k a _ (ne_of e eB (fun z => nomatch z)) e⟩
def spOwn (K : PySem.W.Frag) : Sp := fun vs H Q _ => ∃ (a L : Addr) (us ys : List V) (bs : List Bat3) (ts : List Tst) (cs : List Addr), vs = [.ref a, .ref L] ∧ H a = some (.lst us) ∧ ThgL cs H us (bs.map batD) ∧ H L = some (.lst ys) ∧ ThgL cs H ys (ts.map tstD) ∧ CaseOk bs ts ∧ Sm8 bs ∧ (∃ t ∈ ts, t.bad = true) ∧
  ∀ R vs' (rows : List Trip3) H', H R = none → Same H H' → H' R = some (.lst vs') → (∀ ds, (∀ c ∈ ds, H c ≠ none) → ThgL ds H' vs' (rows.map trip3D)) → rows.length ≤ 25 → (∀ r ∈ rows, Trip3Ok 300 300 r) → Q (.ref R) H'
abbrev sOwn : Stmt := topS 43
theorem scOwn : FnScope ["_law_batches_here", "_law_tests_here", "_law_by_mark", "_law_found", "_law_k", "_law_good", "_law_place", "_law_bad", "_law_mark", "_law_tin", "_law_word", "_law_away", "_law_both", "_law_test", "_law_where", "_law_batch"] ["_law_batches_here", "_law_tests_here"] (defScope sOwn) := ⟨rfl, rfl, rfl, by decide +kernel, rfl, by decide +kernel, by decide +kernel⟩
section
variable {K : PySem.W.Frag} {mg : Str → Option Value} {P : Program} {w : World} {base : Heap}
theorem ok_Own {f : Addr} {fd : FuncData} (F : Fun K "_law_own" "_law_own" sOwn f fd) (C__law_places : Cal P w K mg base 1 "_law_places" ["_law_batches_here"] (spLPl K)) (C__law_window : Cal P w K mg base 1 "_law_window" ["_law_batch", "_law_place", "_law_tin"] spLWin) (m_dict : mg "dict" = none) (m_enumerate : mg "enumerate" = none) (m_min : mg "min" = none) (m_max : mg "max" = none) (m_sorted : mg "sorted" = none) (m_set : mg "set" = none) (m_list : mg "list" = none) : FnOk P w K mg base CX0 2 f fd ["_law_batches_here", "_law_tests_here"] (spOwn K) := by
  refine F.ok scOwn (fun vs H Q E h => ?_) (fun cdv A outer s H vs Q E hr h => ?_)
  · obtain ⟨a, L, us, ys, bs, ts, cs, rfl, _⟩ := h
    rfl
  · obtain ⟨a, L, us, ys, bs, ts, cs, rfl, ha, hu, hL, hy, hC, h8, hbad, q⟩ := h
    refine ⟨_, pss_cons (ps_par rfl scOwn.nd (i := 2) (j := 3) rfl rfl (by decide) rfl rfl (pa_cons (pe_callTy (call_dictP rfl) (by rfl) m_dict (by decide +kernel) (pa_cons (pe_lc (own := [("_law_batch", 15)]) (g := (gName 15)) (tt := tYes) (te := (tTup (tCons (tOp (rIxT K) (tVar 15) (tC (.int 0))) (tCons (tVar 15) tNil)))) rfl scOwn.nd (pi_list (pv 0)) (blkOk_by (own := [("_law_batch", 15)]) (N := ["_law_batches_here", "_law_tests_here", "_law_by_mark", "_law_found", "_law_k", "_law_good", "_law_place", "_law_bad", "_law_mark", "_law_tin", "_law_word", "_law_away", "_law_both", "_law_test", "_law_where", "_law_batch"]) (sc := defScope sOwn) (by decide +kernel)) (fun _ _ _ _ _ => (pg_name (i := 15) scOwn.nd rfl (.inl rfl))) (fun _ _ _ _ _ => pts_nil) (fun _ _ _ _ _ => (pe_tup (pa_cons (pe_ix ix_tup (pv 15) pe_int (fun _ _ => rfl)) (pa_cons (pv 15) pa_nil))))) pa_nil)) (pa_cons (pe_lst pa_nil) pa_nil)) (by rfl))
      (pss_cons (ps_setLc (i := 5) (own := [("_law_k", 4), ("_law_test", 13)]) (g := (gTup K 2 (gCons (gName 4) (gCons (gName 13) gNil)))) (tt := (tTest (tOp (rEq) (tOp (rIxT K) (tVar 13) (tC (.int 2))) (tC (.str "good"))))) (te := (tVar 4)) rfl scOwn.nd rfl rfl (sw_true rfl rfl rfl (by decide +kernel)) (pi_enum (by rfl) m_enumerate (pa_cons (pv 1) pa_nil)) (blkOk_by (own := [("_law_k", 4), ("_law_test", 13)]) (N := ["_law_batches_here", "_law_tests_here", "_law_by_mark", "_law_found", "_law_k", "_law_good", "_law_place", "_law_bad", "_law_mark", "_law_tin", "_law_word", "_law_away", "_law_both", "_law_test", "_law_where", "_law_batch"]) (sc := defScope sOwn) (by decide +kernel)) (fun _ _ _ _ _ => (pg_tup rfl (pgs_cons (pg_name (i := 4) scOwn.nd rfl (.inl rfl)) (pgs_cons (pg_name (i := 13) scOwn.nd rfl (.inl rfl)) pgs_nil)))) (fun _ _ _ _ _ => (pts_one (pt_cmpR op_eq (pe_ix ix_tup (pv 13) pe_int (fun _ _ => rfl)) pe_str (nomark _)))) (fun _ _ _ _ _ => (pv 4)))
      (pss_cons (ps_for PassesOwn.never rfl (pi_list (pe_own C__law_places hr (by rfl) (pa_cons (pv 0) pa_nil))) (pg_name (i := 6) scOwn.nd rfl (.inl rfl))
        (pss_cons (ps_set (i := 7) scOwn.nd rfl (.inl rfl) (pe_lst pa_nil))
        (pss_cons (ps_for PassesOwn.never rfl (pi_enum (by rfl) m_enumerate (pa_cons (pv 1) pa_nil)) (pg_tup rfl (pgs_cons (pg_name (i := 4) scOwn.nd rfl (.inl rfl)) (pgs_cons (pg_tup rfl (pgs_cons (pg_name (i := 8) scOwn.nd rfl (.inl rfl)) (pgs_cons (pg_name (i := 9) scOwn.nd rfl (.inl rfl)) (pgs_cons (pg_name (i := 10) scOwn.nd rfl (.inl rfl)) pgs_nil)))) pgs_nil)))
          (pss_one (ps_if (pt_cmpR op_eq (pv 10) pe_str (nomark _)) (pss_one (ps_expr (pe_bm PySem.F.plainAttrs_list PySem.F.slot_list_append PySem.F.type_list_append mt_append (pv 7) (pa_cons (pe_tup (pa_cons (pe_own C__law_window hr (by rfl) (pa_cons (pe_dget (hu_of hr) (pv 2) (pv 8) (fun _ _ => rfl)) (pa_cons (pv 6) (pa_cons (pv 9) pa_nil)))) (pa_cons (pv 4) pa_nil))) pa_nil))))
            pss_nil)))
        (pss_cons (ps_setLc (i := 11) (own := [("_law_where", 14), ("_law_k", 4)]) (g := (gTup K 2 (gCons (gName 14) (gCons (gName 4) gNil)))) (tt := (tTest (tOp (fun x y H Q => y = .non ∧ Q (.bl (decide (x = .non))) H) (tVar 14) (tC .non)))) (te := (tVar 4)) rfl scOwn.nd rfl rfl (sw_true rfl rfl rfl (by decide +kernel)) (pi_list (pv 7)) (blkOk_by (own := [("_law_where", 14), ("_law_k", 4)]) (N := ["_law_batches_here", "_law_tests_here", "_law_by_mark", "_law_found", "_law_k", "_law_good", "_law_place", "_law_bad", "_law_mark", "_law_tin", "_law_word", "_law_away", "_law_both", "_law_test", "_law_where", "_law_batch"]) (sc := defScope sOwn) (by decide +kernel)) (fun _ _ _ _ _ => (pg_tup rfl (pgs_cons (pg_name (i := 14) scOwn.nd rfl (.inl rfl)) (pgs_cons (pg_name (i := 4) scOwn.nd rfl (.inl rfl)) pgs_nil)))) (fun _ _ _ _ _ => (pts_one (pt_cmpR op_isN (pv 14) pe_non (nomark _)))) (fun _ _ _ _ _ => (pv 4)))
        (pss_one (ps_if (pt_cmpR (op_neD hr.units) (pv 11) (pe_lst pa_nil) (nomark _)) (pss_one (ps_expr (pe_bm PySem.F.plainAttrs_list PySem.F.slot_list_append PySem.F.type_list_append mt_append (pv 3) (pa_cons (pe_tup (pa_cons (pv 6) (pa_cons (pe_slice sl_list (pv 11) po_none (po_some pe_int)) (pa_cons (pe_lst pa_nil) pa_nil)))) pa_nil))))
          (pss_cons (ps_set (i := 12) scOwn.nd rfl (.inl rfl) (pe_lst (pa_cons (pe_ix ix_tup (pe_callB (cr_minP rfl (u64 hr)) (by rfl) m_min (by decide +kernel) (pa_cons (pe_lc (own := [("_law_where", 14), ("_law_k", 4)]) (g := (gTup K 2 (gCons (gName 14) (gCons (gName 4) gNil)))) (tt := tYes) (te := (tTup (tCons (tOp (rIxT K) (tVar 14) (tC (.int 1))) (tCons (tVar 4) tNil)))) rfl scOwn.nd (pi_list (pv 7)) (blkOk_by (own := [("_law_where", 14), ("_law_k", 4)]) (N := ["_law_batches_here", "_law_tests_here", "_law_by_mark", "_law_found", "_law_k", "_law_good", "_law_place", "_law_bad", "_law_mark", "_law_tin", "_law_word", "_law_away", "_law_both", "_law_test", "_law_where", "_law_batch"]) (sc := defScope sOwn) (by decide +kernel)) (fun _ _ _ _ _ => (pg_tup rfl (pgs_cons (pg_name (i := 14) scOwn.nd rfl (.inl rfl)) (pgs_cons (pg_name (i := 4) scOwn.nd rfl (.inl rfl)) pgs_nil)))) (fun _ _ _ _ _ => pts_nil) (fun _ _ _ _ _ => (pe_tup (pa_cons (pe_ix ix_tup (pv 14) pe_int (fun _ _ => rfl)) (pa_cons (pv 4) pa_nil))))) pa_nil)) pe_int (fun _ _ => rfl)) (pa_cons (pe_ix ix_tup (pe_callB (cr_maxP rfl (u64 hr)) (by rfl) m_max (by decide +kernel) (pa_cons (pe_lc (own := [("_law_where", 14), ("_law_k", 4)]) (g := (gTup K 2 (gCons (gName 14) (gCons (gName 4) gNil)))) (tt := tYes) (te := (tTup (tCons (tOp (rIxT K) (tVar 14) (tC (.int 0))) (tCons (tVar 4) tNil)))) rfl scOwn.nd (pi_list (pv 7)) (blkOk_by (own := [("_law_where", 14), ("_law_k", 4)]) (N := ["_law_batches_here", "_law_tests_here", "_law_by_mark", "_law_found", "_law_k", "_law_good", "_law_place", "_law_bad", "_law_mark", "_law_tin", "_law_word", "_law_away", "_law_both", "_law_test", "_law_where", "_law_batch"]) (sc := defScope sOwn) (by decide +kernel)) (fun _ _ _ _ _ => (pg_tup rfl (pgs_cons (pg_name (i := 14) scOwn.nd rfl (.inl rfl)) (pgs_cons (pg_name (i := 4) scOwn.nd rfl (.inl rfl)) pgs_nil)))) (fun _ _ _ _ _ => pts_nil) (fun _ _ _ _ _ => (pe_tup (pa_cons (pe_ix ix_tup (pv 14) pe_int (fun _ _ => rfl)) (pa_cons (pv 4) pa_nil))))) pa_nil)) pe_int (fun _ _ => rfl)) pa_nil))))
          (pss_one (ps_expr (pe_bm PySem.F.plainAttrs_list PySem.F.slot_list_append PySem.F.type_list_append mt_append (pv 3) (pa_cons (pe_tup (pa_cons (pv 6) (pa_cons (pe_sortedSet (by rfl) m_sorted (by rfl) m_set (pv 12)) (pa_cons (pe_callTy call_list_of (by rfl) m_list (by decide +kernel) (pa_cons (pv 5) pa_nil)) pa_nil)))) pa_nil)))))))))))
      (pss_one (ps_ret (pv 3))))), ?_⟩
    have hul : us.length = bs.length := by rw [hu.1, List.length_map]
    have hyl : ys.length = ts.length := by rw [hy.1, List.length_map]
    have h100 := hC.bl
    have htl := hC.tl
    have s1 : Same H H := Same.refl H
    refine ⟨_, rfl, a, rfl, ⟨_, SqL.of (s1 _ _ ha)⟩, fun D nD => ?_⟩
    refine lc_it (walk_list (xs := us)) (fun i H' => Same H H' ∧ ∃ ws : List Addr, H' D = some (.lst (ws.map V.ref)) ∧ ws.length = i ∧ ∀ (j : Nat) T, ws[j]? = some T → ∃ B x, bs[j]? = some B ∧ us[j]? = some x ∧ H' T = some (.tup [.str B.mark, x])) ⟨same_upd nD, [], upd_same, rfl, fun j T e => nomatch e⟩ (fun i H' _ p => SqL.of (p.1 _ _ (s1 _ _ ha))) (fun i x H2 H2' hi hP hyy => ?_) (fun H2 hP => ?_)
    · obtain ⟨sm, ws, eD, hwl, hws⟩ := hP
      obtain ⟨rfl, hx⟩ := hyy
      obtain ⟨B, eB, hB⟩ := hu.atM hx
      obtain ⟨c, l', xs', rfl, ec, _⟩ := ((hB.same s1).same sm).batL
      refine ⟨rfl, _, rfl, c, _, 0, _, rfl, rfl, .inl (.inl ec), atI_nat (j := 0) rfl, _, rfl, (by show 2 ≤ sizeLine; decide), fun T nT => ?_⟩
      have sT := same_upd (o := .tup [.str B.mark, .ref c]) nT
      have eD2 := sT _ _ eD
      refine ⟨_, eD2, small1000 (by rw [List.length_map]; omega), fun b o e => ?_, ws ++ [T], by rw [upd_same, List.map_append]; rfl, by rw [List.length_append, hwl]; rfl, fun j T' e => ?_⟩
      · rw [upd_ne (ne_of_none e nD)]
        exact sT _ _ (sm b o e)
      · have keep : ∀ {T2 : Addr} {z : List V}, upd H2' T (.tup [.str B.mark, .ref c]) T2 = some (.tup z) → upd (upd H2' T (.tup [.str B.mark, .ref c])) D (.lst (ws.map V.ref ++ [.ref T])) T2 = some (.tup z) := fun e => by rw [upd_ne (ne_of e eD2 (fun z => nomatch z))]; exact e
        by_cases hj : j < ws.length
        · rw [List.getElem?_append_left hj] at e
          obtain ⟨B', x', g1, g2, g3⟩ := hws j T' e
          exact ⟨B', x', g1, g2, keep (sT _ _ g3)⟩
        · rw [List.getElem?_append_right (by omega)] at e
          have h0 : j - ws.length < 1 := (List.getElem?_eq_some_iff.mp e).1
          obtain rfl : j = ws.length := by omega
          rw [Nat.sub_self] at e
          cases e
          rw [hwl]
          exact ⟨B, _, eB, hx, keep upd_same⟩
    obtain ⟨sm, ws, eD, hwl, hws⟩ := hP
    rw [hul] at hwl
    have pr : ∀ n, n ≤ ws.length → ∃ kvs : List (Key × V), Paired (fun p kv => SqT K H2 p [kV kv.1, kv.2]) (ws.take n) kvs ∧ kvs.length = n ∧ DicR (fun B v => Thg cs H v (batD B)) (mergeK [] kvs) bs n := by
      intro n
      induction n with
      | zero => exact fun _ => ⟨[], .nil, rfl, fun i B z => absurd z (Nat.not_lt_zero _)⟩
      | succ n ih =>
        intro hn
        obtain ⟨kvs, h1, h2, h3⟩ := ih (by omega)
        have eT : ws[n]? = some ws[n] := List.getElem?_eq_getElem (by omega)
        obtain ⟨B, x, g1, g2, g3⟩ := hws n _ eT
        refine ⟨kvs ++ [(.inr B.mark, x)], ?_, by rw [List.length_append, h2]; rfl, ?_⟩
        · rw [List.take_add_one, eT]
          exact h1.snoc (.inl (.inl g3))
        · have e : mergeK [] (kvs ++ [(.inr B.mark, x)]) = putK (mergeK [] kvs) (.inr B.mark) x := by
            unfold mergeK
            rw [List.foldl_append]
            rfl
          rw [e]
          exact h3.put hC.nd g1 (hu.2 n x _ g2 (by rw [List.getElem?_map, g1]; rfl))
    obtain ⟨kvs, hp, hkl, hd⟩ := pr ws.length (Nat.le_refl _)
    rw [List.take_length] at hp
    rw [hwl] at hd
    refine ⟨D, ws, kvs, rfl, SqL.of eD, hp, fun M nM => ?_⟩
    have sM := same_upd (o := .dK (mergeK [] kvs)) nM
    have S := (s1.trans sm).trans sM
    have eM := upd_same (H := H2) (a := M) (o := .dK (mergeK [] kvs))
    have hd2 : ∀ (i : Nat) (B : Bat3), i < bs.length → bs[i]? = some B → ∃ v, valV (mergeK [] kvs) (Sum.inr B.mark) = some v ∧ Thg cs H v (batD B) := hd
    revert S eM hd2
    generalize upd H2 M (.dK (mergeK [] kvs)) = H3
    generalize mergeK [] kvs = kk
    intro S eM hd2
    refine ⟨Nat.zero_le _, fun F nF => ?_⟩
    have sF := same_upd (o := .lst []) nF
    have eF := upd_same (H := H3) (a := F) (o := .lst [])
    have S3 := S.trans sF
    have nFH : H F = none := S.free nF
    have eM3 := sF _ _ eM
    have hd3 := hd2
    revert eF S3 eM3 hd3
    generalize upd H3 F (.lst []) = H4
    intro eF S4 eM4 hd4
    refine ⟨_, _, rfl, _, rfl, L, ys, rfl, SqL.of (S4 _ _ hL), fun D2 nD2 => lc_intsP (fun k => 0 ≤ k ∧ k < (ts.length : Int)) walk_enum nD2 (by omega) (fun H' s => SqL.of (s _ _ (S4 _ _ hL))) (fun j x H5 H5' Kt Kn hj s5 hyy kt kn => ?_) (fun H5 gd s5 eD2 hgd lgd => ?_)⟩
    · obtain ⟨T, a1, b1, rfl, nT, rfl, e1, e2⟩ := hyy
      cases e1
      obtain ⟨t, et, ht⟩ := hy.atM e2
      have sT := same_upd (o := .tup [.int (j : Nat), b1]) nT
      obtain ⟨c0, rfl, ec⟩ := (((ht.same S4).same s5).same sT).tst
      have hj' : j < ts.length := (List.getElem?_eq_some_iff.mp et).1
      exact ⟨T, _, rfl, .inl (.inl upd_same), rfl, _, _, rfl, _, _, rfl, rfl, rfl, _, rfl, c0, _, 2, _, rfl, rfl, .inl (.inl ec), atI_nat (j := 2) rfl, rfl, _, rfl, ite2 (fun c => ⟨_, rfl, kt _ _ ⟨by omega, by omega⟩ sT⟩) (fun c => kn _ sT)⟩
    rw [hyl] at lgd
    have S5 := S4.trans s5
    have nFD : D2 ≠ F := fun z => by rw [z, eF] at nD2; cases nD2
    refine ⟨_, rfl, a, us, bs, cs, rfl, S5 _ _ ha, hu.same S5, h8, fun lp ps H6 nlp s6 elp hps => ⟨lp, rfl, ⟨_, SqL.of elp⟩, ?_⟩⟩
    have S6 := S5.trans s6
    have eF6 := s6 _ _ (s5 _ _ eF)
    have eG6 := s6 _ _ eD2
    have eM6 := s6 _ _ (s5 _ _ eM4)
    have nlF : lp ≠ F := fun z => by rw [z] at nlp; rw [s5 _ _ eF] at nlp; cases nlp
    have nMF : M ≠ F := ne_of eM4 eF (fun z => nomatch z)
    have hpl : ps.length ≤ 25 := places_25 h8 hps
    refine for_list (xs := ps.map V.str) (fun i σ Hx => ∃ (vs' : List V) (rows : List Trip3) (y4 y6 y7 y8 y9 y10 y11 y12 y13 y14 y15 : Option V), σ = [some (.ref a), some (.ref L), some (.ref M), some (.ref F), y4, some (.ref D2), y6, y7, y8, y9, y10, y11, y12, y13, y14, y15] ∧ (∀ c o, c ≠ F → H6 c = some o → Hx c = some o) ∧ Hx F = some (.lst vs') ∧ (∀ ds, (∀ c ∈ ds, H c ≠ none) → ThgL (F :: ds) Hx vs' (rows.map trip3D)) ∧ rows.length = i ∧ ∀ r ∈ rows, Trip3Ok 300 300 r)
      ⟨[], [], _, _, _, _, _, _, _, _, _, _, _, rfl, fun _ _ _ e => e, eF6, fun _ _ => ThgL.nil, rfl, fun _ z => nomatch z⟩ (fun i σ Hx _ hP => ?_) (fun i x σ Hx hx hP => ?_) (fun σ Hx hP => ?_)
    · obtain ⟨_, _, _, _, _, _, _, _, _, _, _, _, _, rfl, kx, _⟩ := hP
      exact SqL.of (kx _ _ nlF elp)
    · obtain ⟨vs', rows, y4, y6, y7, y8, y9, y10, y11, y12, y13, y14, y15, rfl, kx, eFx, hrows, hrl, hro⟩ := hP
      rw [List.getElem?_map] at hx
      obtain ⟨p, ep, rfl⟩ := Option.map_eq_some_iff.mp hx
      have hil : i < ps.length := (List.getElem?_eq_some_iff.mp ep).1
      have hpp := (hps.mem p).mp (List.mem_of_getElem? ep)
      have nF6 : ∀ c o, H c = some o → c ≠ F := fun c o e z => by rw [z, nFH] at e; cases e
      have Sx : Same H Hx := fun c o e => kx _ _ (nF6 c o e) (S6 _ _ e)
      refine ⟨Nat.zero_le _, fun Bd nB => ?_⟩
      have sB := same_upd (o := .lst []) nB
      have eB := upd_same (H := Hx) (a := Bd) (o := .lst [])
      have nBF : Bd ≠ F := fun z => by rw [z, eFx] at nB; cases nB
      have kxB : ∀ c o, c ≠ F → H6 c = some o → upd Hx Bd (.lst []) c = some o := fun c o n e => sB _ _ (kx c o n e)
      have eFB := sB _ _ eFx
      have SB := Sx.trans sB
      have hrB : ∀ ds, (∀ c ∈ ds, H c ≠ none) → ThgL (Bd :: F :: ds) (upd Hx Bd (.lst [])) vs' (rows.map trip3D) := fun ds hds => ((hrows ds hds).more nB).same sB
      have nBH : H Bd = none := Sx.free nB
      have nBx := nB
      revert eB kxB eFB SB hrB
      generalize upd Hx Bd (.lst []) = H7
      intro eB kxB eFB SB hrB
      have eM7 := kxB _ _ nMF eM6
      refine ⟨_, rfl, L, ys, rfl, SqL.of (SB _ _ hL), for_it (walk_enum (xs := ys)) (fun j σ Hy => ∃ (ws : List V) (bl : List (Option (Int × Int) × Int)) (y4 y8 y9 y10 : Option V), σ = [some (.ref a), some (.ref L), some (.ref M), some (.ref F), y4, some (.ref D2), some (.str p), some (.ref Bd), y8, y9, y10, y11, y12, y13, y14, y15] ∧ (∀ c o, c ≠ Bd → H7 c = some o → Hy c = some o) ∧ Hy Bd = some (.lst ws) ∧ ThgL [Bd] Hy ws (bl.map badD) ∧ bl.length ≤ j ∧ (∀ x ∈ bl, 0 ≤ x.2 ∧ x.2 < (ts.length : Int)) ∧ (∀ (m : Nat) t, m < j → ts[m]? = some t → t.bad = true → bl ≠ [])) ⟨[], [], _, _, _, _, rfl, fun _ _ _ e => e, eB, ThgL.nil, Nat.le_refl _, (fun _ z => nomatch z), fun m t z => absurd z (Nat.not_lt_zero _)⟩ (fun j σ Hy _ hP => ?_) (fun j x σ Hy Hy' hj hP hyy => ?_) (fun σ Hy hP => ?_)⟩
      · obtain ⟨ws, bl, _, _, _, _, rfl, ky, _⟩ := hP
        exact SqL.of (ky _ _ (fun z => by rw [z, nBH] at hL; cases hL) (SB _ _ hL))
      · obtain ⟨ws, bl, y4, y8, y9, y10, rfl, ky, eBy, hw, hbl, hbr, hbn⟩ := hP
        obtain ⟨T, a1, b1, rfl, nT, rfl, e1, e2⟩ := hyy
        cases e1
        have nBo : ∀ c o, H c = some o → c ≠ Bd := fun c o e z => by rw [z, nBH] at e; cases e
        have Sy : Same H Hy := fun c o e => ky _ _ (nBo c o e) (SB _ _ e)
        obtain ⟨t, et, ht⟩ := hy.atM e2
        have sT := same_upd (o := .tup [.int (j : Nat), b1]) nT
        have STy := Sy.trans sT
        obtain ⟨c0, rfl, ec⟩ := (ht.same STy).tst
        have hj' : j < ts.length := (List.getElem?_eq_some_iff.mp et).1
        refine ⟨T, _, rfl, .inl (.inl upd_same), rfl, _, _, rfl, _, _, rfl, c0, _, rfl, .inl (.inl ec), rfl, _, _, rfl, _, _, rfl, _, _, rfl, rfl, rfl, _, rfl, rfl, _, rfl, ite2 (fun c => ?_) (fun c => ?_)⟩
        · have hb : t.bad = true := (wordD_eq t.bad).1.mp (V.str.inj (of_decide_eq_true c))
          have eBT := sT _ _ eBy
          obtain ⟨B, hB, hm, ew, k0, k1⟩ := winT_of hC (List.mem_of_getElem? et) p
          obtain ⟨jB, hjB⟩ := List.getElem?_of_mem hB
          obtain ⟨vB, ev, hvB⟩ := hd4 jB B (List.getElem?_eq_some_iff.mp hjB).1 hjB
          have nMB : M ≠ Bd := ne_of eM7 eB (fun z => nomatch z)
          have eMy := sT _ _ (ky _ _ nMB eM7)
          refine ⟨_, rfl, .inl ⟨rfl, _, SqL.of eBT⟩, _, rfl, _, rfl, M, vB, rfl, ?_, _, rfl, _, rfl, vB, p, t.tin, B, cs, rfl, hvB.same STy, hC.bat B hB, k0, k1, fun y H8 s8 hy8 => ⟨_, rfl, (by show 2 ≤ sizeLine; decide), fun T2 nT2 => ?_⟩⟩
          · have z := DGet.k (k := Sum.inr t.mark) eMy
            rw [← hm, ev] at z
            rw [← hm]
            exact z
          rw [← ew] at hy8
          have sT2 := same_upd (o := .tup [y, .int (j : Nat)]) nT2
          have eB2 := sT2 _ _ (s8 _ _ eBT)
          have hwl : ws.length = bl.length := by rw [hw.1, List.length_map]
          refine ⟨Bd, _, _, rfl, rfl, eB2, small1000 (by omega), ws ++ [.ref T2], bl ++ [(winT bs p t, (j : Int))], _, _, _, _, rfl, fun c' o n e => ?_, upd_same, ?_, by rw [List.length_append]; exact Nat.succ_le_succ hbl, fun x hx => ?_, fun _ _ _ _ _ z => by simp at z⟩
          · rw [upd_ne n]
            exact sT2 _ _ (s8 _ _ (sT _ _ (ky _ _ n e)))
          · rw [List.map_append]
            have h2 : Thg [Bd] (upd H8 T2 (.tup [y, .int (j : Nat)])) (.ref T2) (badD (winT bs p t, (j : Int))) := ThgL.tup (.cons ((hy8.span).same sT2) (.one (.int _))) upd_same
            exact ((((hw.same sT).same s8).same sT2).upd eB2 (by simp)).append (ThgL.one (h2.upd eB2 (by simp)))
          · rcases List.mem_append.mp hx with z | z
            · exact hbr x z
            · rw [List.mem_singleton.mp z]
              exact ⟨by show (0 : Int) ≤ (j : Int); omega, by show (j : Int) < _; omega⟩
        · refine ⟨ws, bl, _, _, _, _, rfl, fun c' o n e => sT _ _ (ky _ _ n e), sT _ _ eBy, hw.same sT, by omega, hbr, fun m t' hm' et' hb' => ?_⟩
          by_cases e : m = j
          · subst e
            rw [et] at et'
            cases et'
            exact absurd (decide_eq_true (congrArg V.str ((wordD_eq t.bad).1.mpr hb'))) c
          · exact hbn m t' (by omega) et' hb'
      · obtain ⟨ws, bl, y4, y8, y9, y10, rfl, ky, eBy, hw, hbl, hbr, hbn⟩ := hP
        rw [hyl] at hbl hbn
        have hwl : ws.length = bl.length := by rw [hw.1, List.length_map]
        have hne : bl ≠ [] := by
          obtain ⟨t, ht, hb⟩ := hbad
          obtain ⟨m, hm⟩ := List.getElem?_of_mem ht
          exact hbn m t (List.getElem?_eq_some_iff.mp hm).1 hm hb
        have nBo : ∀ c o, H c = some o → c ≠ Bd := fun c o e z => by rw [z, nBH] at e; cases e
        have Sy : Same H Hy := fun c o e => ky _ _ (nBo c o e) (SB _ _ e)
        have kxy : ∀ c o, c ≠ F → c ≠ Bd → H6 c = some o → Hy c = some o := fun c o n n2 e => ky _ _ n2 (kxB _ _ n e)
        have eFy := ky _ _ nBF.symm eFB
        have kfin : ∀ {H8 : Hp}, Same Hy H8 → ∀ c o, c ≠ F → H6 c = some o → H8 c = some o := fun s8 c o n e => s8 _ _ (kxy c o n (fun z => by
          have := kx c o n e
          rw [z, nBx] at this
          cases this) e)
        have eGy : Hy D2 = some (.lst (gd.map V.int)) := kfin (Same.refl _) _ _ nFD eG6
        have hrY : ∀ ds, (∀ c ∈ ds, H c ≠ none) → ThgL (F :: ds) Hy vs' (rows.map trip3D) := fun ds hds => ((hrB ds hds).kpB eB ky).less fun c hc => List.mem_cons_of_mem _ hc
        refine ⟨_, rfl, Bd, rfl, ⟨_, SqL.of eBy⟩, fun D nD => lc_thgF (fun i => (bl[i]?).bind fun x => if x.1.isNone = true then some (PyData.int x.2) else none) (walk_list (xs := ws)) [] nD (by omega) (fun H' s => SqL.of (s _ _ eBy)) (fun k z H8 H8' Kt Kn hk s8 hyy kt kn => ?_) (fun H8 vs8 s8 eD8 h8' => ?_)⟩
        · obtain ⟨rfl, hz⟩ := hyy
          obtain ⟨x, ex, hx⟩ := hw.atM hz
          obtain ⟨T, y, rfl, eT, hy1⟩ := (hx.same s8).badX
          rw [ex] at kt kn
          refine ⟨T, _, rfl, .inl (.inl eT), rfl, _, _, rfl, _, _, rfl, rfl, rfl, _, rfl, rfl, _, rfl, ?_⟩
          cases hx1 : x.1 with
          | none =>
            rw [hx1] at hy1
            obtain rfl := hy1.inv_non
            exact iteT ⟨_, rfl, kt _ (.int x.2) _ (by show (if x.1.isNone = true then _ else none) = _; rw [hx1]; rfl) (Same.refl _) (.int _)⟩
          | some r =>
            rw [hx1] at hy1
            obtain ⟨T9, rfl, _⟩ := Thg.pair (p := r) hy1
            exact iteF (kn _ (by show (if x.1.isNone = true then _ else none) = _; rw [hx1]; rfl) (Same.refl _))
        · have eaw : (List.range ws.length).filterMap (fun i => (bl[i]?).bind fun x => if x.1.isNone = true then some (PyData.int x.2) else none) = (bl.filterMap fun x => if x.1.isNone = true then some x.2 else none).map PyData.int := by
            rw [hwl, range_bind]
            exact away_eq bl
          rw [eaw] at h8'
          have e8 := h8'.ints
          obtain ⟨aw, haw⟩ : ∃ aw, aw = bl.filterMap fun x => if x.1.isNone = true then some x.2 else none := ⟨_, rfl⟩
          rw [← haw] at e8
          subst e8
          have hawr : ∀ k ∈ aw, 0 ≤ k ∧ k < (ts.length : Int) := fun k hk => by
            rw [haw] at hk
            obtain ⟨x, hx, e⟩ := List.mem_filterMap.mp hk
            split at e
            · cases e; exact hbr x hx
            · cases e
          have hawl : aw.length ≤ bl.length := by rw [haw]; exact List.length_filterMap_le _ _
          refine ⟨_, rfl, Nat.zero_le _, fun z1 nz1 => ?_⟩
          have sz := same_upd (o := .lst []) nz1
          refine ⟨_, _, .lst (SqL.of (sz _ _ eD8)) (dp_ints _), .lst (SqL.of upd_same) .nil, shaped_ints aw, shaped_ints [], _, rfl, ?_⟩
          have s89 := s8.trans sz
          have eD9 := sz _ _ eD8
          have eF9 := s89 _ _ eFy
          have eB9 := s89 _ _ eBy
          have eG9 := s89 _ _ eGy
          have hw9 := hw.same s89
          have hr9 : ∀ ds, (∀ c ∈ ds, H c ≠ none) → ThgL (F :: ds) (upd H8 z1 (.lst [])) vs' (rows.map trip3D) := fun ds hds => (hrY ds hds).same s89
          have S9 := Sy.trans s89
          have k9 := @kfin _ s89
          revert eD9 eF9 eB9 eG9 hw9 hr9 S9 k9 s89
          generalize upd H8 z1 (.lst []) = H9
          intro s89 eD9 eF9 eB9 eG9 hw9 hr9 S9 k9
          have fin : ∀ (Hz : Hp) (T l1 l2 : Addr) (n1 n2 : List Int), Same H9 Hz → H l1 = none → H l2 = none → l1 ≠ F → l2 ≠ F → Hz T = some (.tup [.str p, .ref l1, .ref l2]) → Hz l1 = some (.lst (n1.map V.int)) → Hz l2 = some (.lst (n2.map V.int)) → n1.length ≤ 300 → n2.length ≤ 300 → (∀ k ∈ n1, 0 ≤ k ∧ k < (ts.length : Int)) → (∀ k ∈ n2, 0 ≤ k ∧ k < (ts.length : Int)) → 
              (∀ c o, c ≠ F → H6 c = some o → upd Hz F (.lst (vs' ++ [.ref T])) c = some o) ∧ upd Hz F (.lst (vs' ++ [.ref T])) F = some (.lst (vs' ++ [.ref T])) ∧ (∀ ds, (∀ c ∈ ds, H c ≠ none) → ThgL (F :: ds) (upd Hz F (.lst (vs' ++ [.ref T]))) (vs' ++ [.ref T]) ((rows ++ [((p, n1, n2) : Trip3)]).map trip3D)) ∧ (rows ++ [((p, n1, n2) : Trip3)]).length = i + 1 ∧ ∀ r ∈ rows ++ [((p, n1, n2) : Trip3)], Trip3Ok 300 300 r := fun Hz T l1 l2 n1 n2 sz f1 f2 g1 g2 eT e1 e2 h1 h2 h3 h4 => by
            refine ⟨fun c o n e => ?_, upd_same, fun ds hds => ?_, by rw [List.length_append, hrl]; rfl, fun r hr => ?_⟩
            · rw [upd_ne n]
              exact sz _ _ (k9 c o n e)
            · have nl : ∀ l, H l = none → l ≠ F → l ∉ F :: ds := fun l f g z => by
                rcases List.mem_cons.mp z with z | z
                · exact g z
                · exact hds l z f
              rw [List.map_append]
              have hT : Thg (F :: ds) Hz (.ref T) (trip3D (p, n1, n2)) := ThgL.tup (.cons (.str _) (.cons (thg_ints.lst e1 (nl _ f1 g1)) (.one (thg_ints.lst e2 (nl _ f2 g2))))) eT
              exact (((hr9 ds hds).same sz).upd (sz _ _ eF9) (List.mem_cons_self ..)).append (ThgL.one (hT.upd (sz _ _ eF9) (List.mem_cons_self ..)))
            · rcases List.mem_append.mp hr with z | z
              · exact hro r z
              · rw [List.mem_singleton.mp z]
                have : ∀ k : Int, (0 ≤ k ∧ k < (ts.length : Int)) → 0 ≤ k ∧ k < 300 := fun k h => ⟨h.1, by omega⟩
                exact ⟨place_tx hC hpp, h1, h2, fun k hk => this k (h3 k hk), fun k hk => this k (h4 k hk)⟩
          have evl : PyData.eqv (PyData.list (aw.map PyData.int)) (PyData.list []) = aw.isEmpty := eqv_nil4 _ aw
          rw [evl]
          refine ite2 (fun c => ?_) (fun c => ?_)
          · refine ⟨_, rfl, .inl ⟨rfl, _, SqL.of eF9⟩, _, rfl, _, rfl, 1, rfl, D, _, rfl, SqL.of eD9, fun p1 np1 => ⟨Nat.zero_le _, fun p2 np2 => ⟨(by show 3 ≤ sizeLine; decide), fun T nT => ?_⟩⟩⟩
            have s1 := same_upd (o := .lst (cutV (aw.map V.int) none (some 1))) np1
            have s2 := same_upd (o := .lst []) np2
            have s3 := same_upd (o := .tup [.str p, .ref p1, .ref p2]) nT
            have ec : cutV (aw.map V.int) none (some 1) = (aw.take 1).map V.int := by
              rw [show (1 : Int) = ((1 : Nat) : Int) from rfl, cut_front, List.map_take]
            have e1 : upd (upd (upd H9 p1 (.lst (cutV (aw.map V.int) none (some 1)))) p2 (.lst [])) T (.tup [.str p, .ref p1, .ref p2]) p1 = some (.lst ((aw.take 1).map V.int)) := (s3 _ _ (s2 _ _ upd_same)).trans (by rw [ec])
            have n1F : p1 ≠ F := fun z => by rw [z, eF9] at np1; cases np1
            have n2F : p2 ≠ F := fun z => by rw [z, s1 _ _ eF9] at np2; cases np2
            obtain ⟨f1, f2, f3, f4, f5⟩ := fin _ T p1 p2 (aw.take 1) [] ((s1.trans s2).trans s3) (S9.free np1) ((S9.trans s1).free np2) n1F n2F upd_same e1 (s3 _ _ upd_same) (by rw [List.length_take]; omega) (Nat.zero_le _) (fun k hk => hawr k (List.mem_of_mem_take hk)) (fun _ z => nomatch z)
            have hvl : vs'.length = rows.length := by have := (hr9 [] (fun _ z => nomatch z)).1; rwa [List.length_map] at this
            exact ⟨F, _, _, rfl, rfl, s3 _ _ (s2 _ _ (s1 _ _ eF9)), small1000 (by omega), _, _, _, _, _, _, _, _, _, _, _, _, _, rfl, f1, f2, f3, f4, f5⟩
          · have haw0 : aw = [] := by
              cases h : aw with
              | nil => rfl
              | cons x r => rw [h] at c; exact absurd rfl c
            have hsome : ∀ x ∈ bl, ∃ r, x.1 = some r := fun x hx => by
              cases e : x.1 with
              | some r => exact ⟨r, rfl⟩
              | none =>
                have : x.2 ∈ aw := by
                  rw [haw]
                  exact List.mem_filterMap.mpr ⟨x, hx, by rw [e]; rfl⟩
                rw [haw0] at this
                cases this
            have hlc : bl.length ≤ 900 := by omega
            refine ⟨_, rfl, Bd, rfl, ⟨_, SqL.of eB9⟩, fun D3 nD3 => lc_thg ((bl.map fun x => ((x.1.getD (0, 0)).2, x.2)).map pairD) (walk_list (xs := ws)) [] nD3 (by rw [List.length_map, List.length_map, hwl]) (by omega) (fun H' s => SqL.of (s _ _ eB9)) (fun k z d H10 H10' Kt Kn hd s10 hyy kt => ?_) (fun H10 vs10 s10 eD3 h10 => ?_)⟩
            · obtain ⟨rfl, hz⟩ := hyy
              obtain ⟨x, ex, hx⟩ := hw9.atM hz
              obtain ⟨T, y, rfl, eT, hy1⟩ := (hx.same s10).badX
              obtain ⟨r, hr⟩ := hsome x (List.mem_of_getElem? ex)
              rw [hr] at hy1
              obtain ⟨T9, rfl, e9⟩ := Thg.pair (p := r) hy1
              have ed : d = pairD (r.2, x.2) := by
                rw [List.getElem?_map, List.getElem?_map, ex] at hd
                cases hd
                show pairD ((x.1.getD (0, 0)).2, x.2) = _
                rw [hr]
                rfl
              subst ed
              exact ⟨T, _, rfl, .inl (.inl eT), rfl, _, _, rfl, _, _, rfl, rfl, rfl, _, rfl, T9, _, 1, _, rfl, rfl, .inl (.inl e9), atI_nat (j := 1) rfl, _, rfl, (by show 2 ≤ sizeLine; decide), fun T3 nT3 => kt _ _ (same_upd nT3) (thg_pair upd_same)⟩
            refine ⟨D3, _, _, rfl, eD3, h10.prs, (by simp [hne]), fun m1 T1 hm1 _ eT1 => ⟨T1, _, 1, _, rfl, rfl, .inl (.inl eT1), atI_nat (j := 1) rfl, ?_⟩⟩
            have eB10 := s10 _ _ eB9
            have hw10 := hw9.same s10
            refine ⟨_, rfl, Bd, rfl, ⟨_, SqL.of eB10⟩, fun D4 nD4 => lc_thg ((bl.map fun x => ((x.1.getD (0, 0)).1, x.2)).map pairD) (walk_list (xs := ws)) [] nD4 (by rw [List.length_map, List.length_map, hwl]) (by omega) (fun H' s => SqL.of (s _ _ eB10)) (fun k z d H11 H11' Kt Kn hd s11 hyy kt => ?_) (fun H11 vs11 s11 eD4 h11 => ?_)⟩
            · obtain ⟨rfl, hz⟩ := hyy
              obtain ⟨x, ex, hx⟩ := hw10.atM hz
              obtain ⟨T, y, rfl, eT, hy1⟩ := (hx.same s11).badX
              obtain ⟨r, hr⟩ := hsome x (List.mem_of_getElem? ex)
              rw [hr] at hy1
              obtain ⟨T9, rfl, e9⟩ := Thg.pair (p := r) hy1
              have ed : d = pairD (r.1, x.2) := by
                rw [List.getElem?_map, List.getElem?_map, ex] at hd
                cases hd
                show pairD ((x.1.getD (0, 0)).1, x.2) = _
                rw [hr]
                rfl
              subst ed
              exact ⟨T, _, rfl, .inl (.inl eT), rfl, _, _, rfl, _, _, rfl, rfl, rfl, _, rfl, T9, _, 0, _, rfl, rfl, .inl (.inl e9), atI_nat (j := 0) rfl, _, rfl, (by show 2 ≤ sizeLine; decide), fun T3 nT3 => kt _ _ (same_upd nT3) (thg_pair upd_same)⟩
            refine ⟨D4, _, _, rfl, eD4, h11.prs, (by simp [hne]), fun m2 T2 hm2 _ eT2 => ⟨T2, _, 1, _, rfl, rfl, .inl (.inl eT2), atI_nat (j := 1) rfl, (by show 2 ≤ sizeLine; decide), fun E0' nE => ?_⟩⟩
            have r1 : 0 ≤ m1.2 ∧ m1.2 < (ts.length : Int) := by
              obtain ⟨x, hx, rfl⟩ := List.mem_map.mp hm1
              exact hbr x hx
            have r2 : 0 ≤ m2.2 ∧ m2.2 < (ts.length : Int) := by
              obtain ⟨x, hx, rfl⟩ := List.mem_map.mp hm2
              exact hbr x hx
            have s12 := s10.trans s11
            have sE := same_upd (o := .lst [V.int m1.2, .int m2.2]) nE
            have eE : upd H11 E0' (.lst [V.int m1.2, .int m2.2]) E0' = some (.lst (([m1.2, m2.2] : List Int).map V.int)) := upd_same
            have s13 := s12.trans sE
            revert eE s13
            generalize upd H11 E0' (.lst [V.int m1.2, .int m2.2]) = H12
            intro eE s13
            refine ⟨_, rfl, .inl ⟨rfl, _, SqL.of (s13 _ _ eF9)⟩, _, rfl, _, rfl, E0', [m1.2, m2.2], rfl, SqL.of eE, by show 2 ≤ 4000; decide, fun ms q1 up mem nq1 => ?_⟩
            have sq1 := same_upd (o := .lst (ms.map V.int)) nq1
            refine ⟨_, rfl, D2, _, rfl, .inl (SqL.of (sq1 _ _ (s13 _ _ eG9))), fun q2 nq2 => ⟨(by show 3 ≤ sizeLine; decide), fun T nT => ?_⟩⟩
            have sq2 := same_upd (o := .lst (gd.map V.int)) nq2
            have sT := same_upd (o := .tup [.str p, .ref q1, .ref q2]) nT
            have s16 := ((s13.trans sq1).trans sq2).trans sT
            have hml := two_len up (i := m1.2) (j := m2.2) fun k => by rw [mem k]; simp
            have n1F : q1 ≠ F := fun z => by rw [z, s13 _ _ eF9] at nq1; cases nq1
            have n2F : q2 ≠ F := fun z => by rw [z, sq1 _ _ (s13 _ _ eF9)] at nq2; cases nq2
            obtain ⟨f1, f2, f3, f4, f5⟩ := fin _ T q1 q2 ms gd s16 ((S9.trans s13).free nq1) (((S9.trans s13).trans sq1).free nq2) n1F n2F upd_same (sT _ _ (sq2 _ _ upd_same)) (sT _ _ upd_same) (by omega) (by omega) (fun k hk => by
              have := (mem k).mp hk
              simp only [List.mem_cons, List.not_mem_nil, or_false] at this
              rcases this with rfl | rfl
              · exact r1
              · exact r2) hgd
            have hvl : vs'.length = rows.length := by have := (hr9 [] (fun _ z => nomatch z)).1; rwa [List.length_map] at this
            exact ⟨F, _, _, rfl, rfl, s16 _ _ eF9, small1000 (by omega), _, _, _, _, _, _, _, _, _, _, _, _, _, rfl, f1, f2, f3, f4, f5⟩
    · obtain ⟨vs', rows, y4, y6, y7, y8, y9, y10, y11, y12, y13, y14, y15, rfl, kx, eFx, hrows, hrl, hro⟩ := hP
      rw [List.length_map] at hrl
      have nF6 : ∀ c o, H c = some o → c ≠ F := fun c o e z => by rw [z, nFH] at e; cases e
      exact ⟨_, rfl, q F vs' rows Hx nFH (fun c o e => kx _ _ (nF6 c o e) (S6 _ _ e)) eFx (fun ds hds => (hrows ds hds).less fun c hc => List.mem_cons_of_mem _ hc) (by omega) hro⟩
end

/-! ### things of any kind, nested so deep -/
theorem strOk_lit (x : String) : PyData.strOk (Str.ofString x) = true := by
  rw [Str.ofString_eq_toList]
  unfold PyData.strOk
  rw [Array.all_eq_true]
  intro i hi
  have hi : i < (x.toList.map Char.toNat).length := by simpa using hi
  have e : (⟨(x.toList.map Char.toNat).toArray⟩ : Str).cps[i] = (x.toList.map Char.toNat)[i] := by simp
  rw [e, List.getElem_map]
  refine decide_eq_true ?_
  have h := (x.toList[i]'(by simpa using hi)).valid
  have h : UInt32.isValidChar _ := h
  unfold UInt32.isValidChar Nat.isValidChar at h
  have : (x.toList[i]'(by simpa using hi)).toNat = (x.toList[i]'(by simpa using hi)).val.toNat := rfl
  omega
inductive Bq (k : Nat) : Nat → PyData → Prop
  | non {n : Nat} : Bq k n .none
  | bl {n : Nat} {b : Bool} : Bq k n (.bool b)
  | int {n : Nat} {i : Int} : i.natAbs < 10 ^ 22 + k → Bq k n (.int i)
  | str {n : Nat} {z : Str} : PyData.strOk z = true → Bq k n (.str z)
  | lst {n : Nat} {ds : List PyData} : ds.length ≤ 400 + k → (∀ d ∈ ds, Bq k n d) → Bq k (n + 1) (.list ds)
  | tup {n : Nat} {ds : List PyData} : ds.length ≤ 400 + k → (∀ d ∈ ds, Bq k n d) → Bq k (n + 1) (.tuple ds)
theorem Bq.up {k n m : Nat} {d : PyData} (h : Bq k n d) : n ≤ m → Bq k m d := by
  induction h generalizing m with
  | non => exact fun _ => .non
  | bl => exact fun _ => .bl
  | int e => exact fun _ => .int e
  | str e => exact fun _ => .str e
  | lst l _ ih =>
    intro le
    obtain ⟨m, rfl⟩ : ∃ m', m = m' + 1 := ⟨m - 1, by omega⟩
    exact .lst l fun d hd => ih d hd (by omega)
  | tup l _ ih =>
    intro le
    obtain ⟨m, rfl⟩ : ∃ m', m = m' + 1 := ⟨m - 1, by omega⟩
    exact .tup l fun d hd => ih d hd (by omega)
theorem Bq.more {k j n : Nat} {d : PyData} (h : Bq k n d) (le : k ≤ j) : Bq j n d := by
  induction h with
  | non => exact .non
  | bl => exact .bl
  | int e => exact .int (by omega)
  | str e => exact .str e
  | lst l _ ih => exact .lst (by omega) ih
  | tup l _ ih => exact .tup (by omega) ih
theorem lays_all {n : Nat} : ∀ {ds : List PyData}, (∀ d ∈ ds, d.canLay0 = true ∧ d.depth ≤ n) → PyData.canLayAll0 ds = true ∧ PyData.depthAll ds ≤ n
  | [], _ => ⟨by simp only [PyData.canLayAll0], by simp [PyData.depthAll]⟩
  | d :: r, h => by
    obtain ⟨h1, h2⟩ := lays_all fun x hx => h x (List.mem_cons_of_mem _ hx)
    obtain ⟨h3, h4⟩ := h d (List.mem_cons_self ..)
    rw [PyData.canLayAll0, PyData.depthAll, h1, h3]
    exact ⟨rfl, by omega⟩
theorem Bq.lay {k n : Nat} {d : PyData} (h : Bq k n d) : d.canLay0 = true ∧ d.depth ≤ n + 1 := by
  induction h with
  | non => exact ⟨rfl, by simp [PyData.depth]⟩
  | bl => exact ⟨rfl, by simp [PyData.depth]⟩
  | int e => exact ⟨rfl, by simp [PyData.depth]⟩
  | str e => exact ⟨by rw [PyData.canLay0, e], by simp [PyData.depth]⟩
  | lst l _ ih =>
    obtain ⟨h1, h2⟩ := lays_all ih
    exact ⟨by rw [PyData.canLay0, h1], by rw [PyData.depth]; omega⟩
  | tup l _ ih =>
    obtain ⟨h1, h2⟩ := lays_all ih
    exact ⟨by rw [PyData.canLay0, h1], by rw [PyData.depth]; omega⟩
theorem Bq.shaped {k n : Nat} {d : PyData} (h : Bq k n d) (hn : n ≤ 20) : SeqAt.shaped d = true := by
  obtain ⟨h1, h2⟩ := h.lay
  unfold SeqAt.shaped
  rw [h1, Bool.true_and]
  exact decide_eq_true (by omega)
theorem Bq.row {k n : Nat} {d : PyData} {ds : List PyData} (h : Bq k n d) (e : rowOf d = some ds) : ∃ m, n = m + 1 ∧ ds.length ≤ 400 + k ∧ ∀ x ∈ ds, Bq k m x := by
  cases h with
  | non => cases e
  | bl => cases e
  | int _ => cases e
  | str _ => cases e
  | lst l h => cases e; exact ⟨_, rfl, l, h⟩
  | tup l h => cases e; exact ⟨_, rfl, l, h⟩
/-- addresses where something stands -/
def Tk (cs : List Addr) (H : Hp) : Prop := ∀ c ∈ cs, H c ≠ none
theorem Tk.same {cs : List Addr} {H H' : Hp} (h : Tk cs H) (s : Same H H') : Tk cs H' := fun c hc z => by
  cases e : H c with
  | none => exact h c hc e
  | some o => rw [s _ _ e] at z; cases z
theorem Tk.kb {cs : List Addr} {b : Addr} {H H' : Hp} {t : Int} (h : Tk cs H) (k : Kb b H H') (S : Bx b H' t) : Tk cs H' := fun c hc z => by
  by_cases e : c = b
  · rw [e] at z
    exact S.ne z
  · cases e2 : H c with
    | none => exact h c hc e2
    | some o => rw [k _ _ e e2] at z; cases z
theorem Tk.off {cs : List Addr} {H : Hp} {p : Addr} (h : Tk cs H) (n : H p = none) : p ∉ cs := fun z => h p z n
theorem Thg.kbT {cs : List Addr} {b : Addr} {H H' : Hp} {v : V} {d : PyData} {t : Int} (h : Thg cs H v d) (S : Bx b H t) (k : Kb b H H') (m : b ∈ cs) : Thg cs H' v d := h.kb S k m
theorem Kb.new' {b p : Addr} {H H' : Hp} {o : HO} (k : Kb b H H') (n : p ≠ b) (e : H p = some o) : H' p = some o := k p o n e
def spNested : Sp := fun vs H Q _ => ∃ (b : Addr) (t deep : Int) (cs : List Addr), vs = [.ref b, .int deep] ∧ Bx b H t ∧ t + 1000 < 2 ^ 40 ∧ 0 ≤ deep ∧ deep ≤ 7 ∧ b ∈ cs ∧ Tk cs H ∧
  ∀ v d t' H', Thg cs H' v d → Bq 0 (deep.toNat + 1) d → t ≤ t' → t' ≤ t + 20 → Bx b H' t' → Kb b H H' → Q v H'
abbrev sNested : Stmt := topS 44
theorem scNested : FnScope ["_law_box_here", "_law_deep", "_law_thing", "_law_turn"] ["_law_box_here", "_law_deep"] (defScope sNested) := ⟨rfl, rfl, rfl, by decide +kernel, rfl, by decide +kernel, by decide +kernel⟩
section
variable {K : PySem.W.Frag} {mg : Str → Option Value} {P : Program} {w : World} {base : Heap}
theorem ok_Nested {f : Addr} {fd : FuncData} (F : Fun K "_law_nested" "_law_nested" sNested f fd) (C__law_take : Cal P w K mg base 1 "_law_take" ["_law_box_here", "_law_many"] spTakeB) (m_range : mg "range" = none) : FnOk P w K mg base CX0 2 f fd ["_law_box_here", "_law_deep"] spNested := by
  refine F.ok scNested (fun vs H Q E h => ?_) (fun cdv A outer s H vs Q E hr h => ?_)
  · obtain ⟨b, t, deep, cs, rfl, _⟩ := h
    rfl
  · obtain ⟨b, t, deep, cs, rfl, hS, ht, hd0, hd7, hbc, hT, q⟩ := h
    refine ⟨_, pss_cons (ps_set (i := 2) scNested.nd rfl (.inl rfl) (pe_ix ix_list (pe_lst (pa_cons pe_non (pa_cons pe_bl (pa_cons pe_bl (pa_cons pe_str (pa_cons pe_str (pa_cons pe_int (pa_cons (pe_un un_neg pe_int) (pa_cons (pe_op op_pow pe_int pe_int) (pa_cons (pe_tup pa_nil) (pa_cons (pe_lst pa_nil) pa_nil))))))))))) (pe_own C__law_take hr (by rfl) (pa_cons (pv 0) (pa_cons pe_int pa_nil))) (fun _ _ => rfl)))
      (pss_cons (ps_for PassesOwn.never rfl (pi_range1 rfl m_range (pa_cons (pe_own C__law_take hr (by rfl) (pa_cons (pv 0) (pa_cons (pe_op op_add (pv 1) pe_int) pa_nil))) pa_nil)) (pg_name (i := 3) scNested.nd rfl (.inl rfl))
        (pss_one (ps_set (i := 2) scNested.nd rfl (.inl rfl) (pe_ix ix_list (pe_lst (pa_cons (pe_lst (pa_cons (pv 2) pa_nil)) (pa_cons (pe_tup (pa_cons (pv 2) pa_nil)) (pa_cons (pe_lst (pa_cons (pv 2) (pa_cons pe_int pa_nil))) pa_nil)))) (pe_own C__law_take hr (by rfl) (pa_cons (pv 0) (pa_cons pe_int pa_nil))) (fun _ _ => rfl)))))
      (pss_one (ps_ret (pv 2)))), ?_⟩
    refine ⟨_, rfl, _, _, rfl, rfl, ⟨by decide, by decide, by decide⟩, Nat.zero_le _, fun T nT => ⟨Nat.zero_le _, fun P0 nP => ⟨(by show 10 ≤ sizeLine; decide), fun Y nY => ?_⟩⟩⟩
    have sT := same_upd (o := .tup []) nT
    have sP := same_upd (o := .lst []) nP
    have sY := same_upd (o := .lst [V.non, .bl true, .bl false, .str "", .str "bad", .int 0, .int (-1), .int (10 ^ 20), .ref T, .ref P0]) nY
    have nPc : P0 ∉ cs := (hT.same sT).off nP
    have s3 := (sT.trans sP).trans sY
    refine ⟨_, rfl, b, t, 10, rfl, hS.same s3, by omega, by decide, by decide, fun r1 t1 H1 r10 r11 u0 u1 hS1 k1 => ?_⟩
    obtain ⟨v, ev, hv⟩ := pick_at (xs := [V.non, .bl true, .bl false, .str "", .str "bad", .int 0, .int (-1), .int (10 ^ 20), .ref T, .ref P0]) (n := 10) rfl r10 r11
    have offY : Y ≠ b := (hS.same (sT.trans sP)).off nY
    have hT1 : Tk cs H1 := (hT.same s3).kb k1 hS1
    obtain ⟨d1, hv1, hq1⟩ : ∃ d, Thg cs H1 v d ∧ Bq 0 1 d := by
      simp only [List.mem_cons, List.not_mem_nil, or_false] at hv
      rcases hv with rfl | rfl | rfl | rfl | rfl | rfl | rfl | rfl | rfl | rfl
      · exact ⟨_, .non, .non⟩
      · exact ⟨_, .bl _, .bl⟩
      · exact ⟨_, .bl _, .bl⟩
      · exact ⟨_, .str _, .str (strOk_lit _)⟩
      · exact ⟨_, .str _, .str (strOk_lit _)⟩
      · exact ⟨_, .int _, .int (by decide)⟩
      · exact ⟨_, .int _, .int (by decide)⟩
      · exact ⟨_, .int _, .int (by decide)⟩
      · exact ⟨_, ThgL.nil.tup (k1.new' (hS.off nT) (sY _ _ (sP _ _ upd_same))), .tup (Nat.zero_le _) fun _ z => nomatch z⟩
      · exact ⟨_, ThgL.nil.lst (k1.new' ((hS.same sT).off nP) (sY _ _ upd_same)) nPc, .lst (Nat.zero_le _) fun _ z => nomatch z⟩
    refine ⟨Y, _, _, v, rfl, rfl, SqL.of (k1.new offY), ev, ?_⟩
    refine ⟨_, rfl, _, rfl, _, _, rfl, rfl, b, t1, deep + 1, rfl, hS1, by omega, by omega, by omega, fun r2 t2 H2 r20 r21 u2 u3 hS2 k2 => ⟨_, rfl, by omega, by omega, ?_⟩⟩
    have k02 : Kb b H H2 := (Kb.same s3).trans (k1.trans k2)
    refine for_range (n := r2.toNat) (fun i σ Hx => ∃ (t' : Int) (v : V) (d : PyData) (y3 : Option V), σ = [some (.ref b), some (.int deep), some v, y3] ∧ Thg cs Hx v d ∧ Bq 0 (i + 1) d ∧ Tk cs Hx ∧ t2 ≤ t' ∧ t' ≤ t2 + (i : Int) ∧ Bx b Hx t' ∧ Kb b H Hx)
      ⟨t2, v, d1, _, rfl, hv1.kb hS1 k2 hbc, hq1, hT1.kb k2 hS2, by omega, by omega, hS2, k02⟩ (fun i σ Hx hi hP => ?_) (fun σ Hx hP => ?_)
    · obtain ⟨t', v, d, y3, rfl, hv, hq, hTx, v0, v1, hSx, kx⟩ := hP
      have hi7 : (i : Int) < 8 := by omega
      refine ⟨_, rfl, (by show 1 ≤ sizeLine; decide), fun A1 nA1 => ⟨_, rfl, (by show 1 ≤ sizeLine; decide), fun A2 nA2 => ⟨_, rfl, (by show 2 ≤ sizeLine; decide), fun A3 nA3 => ⟨(by show 3 ≤ sizeLine; decide), fun Z nZ => ?_⟩⟩⟩⟩
      have s1 := same_upd (o := .lst [v]) nA1
      have s2 := same_upd (o := .tup [v]) nA2
      have s3 := same_upd (o := .lst [v, .int 1]) nA3
      have s4 := same_upd (o := .lst [.ref A1, .ref A2, .ref A3]) nZ
      have s14 := ((s1.trans s2).trans s3).trans s4
      have offZ : Z ≠ b := (hSx.same ((s1.trans s2).trans s3)).off nZ
      refine ⟨_, rfl, b, t', 3, rfl, hSx.same s14, by omega, by decide, by decide, fun r5 t5 H5 r50 r51 w0 w1 hS5 k5 => ?_⟩
      obtain ⟨v', ev', hv'⟩ := pick_at (xs := [V.ref A1, .ref A2, .ref A3]) (n := 3) rfl r50 r51
      have hv5 := (hv.same s14).kb (hSx.same s14) k5 hbc
      have h1n : A1 ∉ cs := hTx.off nA1
      have h3n : A3 ∉ cs := (hTx.same (s1.trans s2)).off nA3
      have hn' : ∀ x ∈ [d], Bq 0 (i + 1) x := fun x hx => by rw [List.mem_singleton.mp hx]; exact hq
      obtain ⟨d', hd', hq'⟩ : ∃ d', Thg cs H5 v' d' ∧ Bq 0 (i + 1 + 1) d' := by
        simp only [List.mem_cons, List.not_mem_nil, or_false] at hv'
        rcases hv' with rfl | rfl | rfl
        · exact ⟨_, (ThgL.one hv5).lst (k5.new' (hSx.off nA1) (s4 _ _ (s3 _ _ (s2 _ _ upd_same)))) h1n, .lst (by show 1 ≤ 400; decide) hn'⟩
        · exact ⟨_, (ThgL.one hv5).tup (k5.new' ((hSx.same s1).off nA2) (s4 _ _ (s3 _ _ upd_same))), .tup (by show 1 ≤ 400; decide) hn'⟩
        · refine ⟨_, (ThgL.cons hv5 (ThgL.one (.int 1))).lst (k5.new' ((hSx.same (s1.trans s2)).off nA3) (s4 _ _ upd_same)) h3n, .lst (by show 2 ≤ 400; decide) fun x hx => ?_⟩
          simp only [List.mem_cons, List.not_mem_nil, or_false] at hx
          rcases hx with rfl | rfl
          · exact hq
          · exact .int (by decide)
      exact ⟨Z, _, _, v', rfl, rfl, SqL.of (k5.new offZ), ev', t5, v', d', _, rfl, hd', hq', (hTx.same s14).kb k5 hS5, by omega, by omega, hS5, kx.trans ((Kb.same s14).trans k5)⟩
    · obtain ⟨t', v, d, y3, rfl, hv, hq, hTx, v0, v1, hSx, kx⟩ := hP
      have hr7 : ((r2.toNat : Nat) : Int) ≤ deep := by omega
      exact ⟨_, rfl, q v d t' Hx hv (hq.up (by omega)) (by omega) (by omega) hSx kx⟩
end

/-! ### a part made another thing -/
def tMidT (tt : TT) : TT := fun σ H Q => ∃ M : Bool → Hp → Prop, tt σ H M ∧ ∀ b H', M b H' → Q b H'
theorem pt_mid {X : Cx} {e : Expr} {tt : TT} (h : PT X e tt) : PT X e (tMidT tt) := ⟨fun pins s σ H Q I ⟨M, h1, h2⟩ => thn (h.run pins s σ H M I h1) fun _ _ ⟨H1, I1, q⟩ => ⟨H1, I1, h2 _ _ q⟩⟩
/-- a truth or a number, and one more -/
theorem op_addBI {X : Cx} : OpR X (binaryOp .Add) (fun x y H Q => (∃ i j, x = .int i ∧ y = .int j ∧ Q (.int (i + j)) H) ∨ (∃ (k : Bool) (j : Int), x = .bl k ∧ y = .int j ∧ Q (.int ((if k = true then (1 : Int) else 0) + j)) H)) := fun pins s σ H x y v u Q I rx ry h => by
  rcases h with h | ⟨k, j, rfl, rfl, q⟩
  · exact op_add pins s σ H x y v u Q I rx ry h
  · cases rx
    obtain ⟨t, rfl⟩ := ry
    exact IntBool.add_bool_int ⟨.int _, H, I.tok _, ⟨_, rfl⟩, q⟩
/-- the text of a truth or a number -/
theorem cr_strBI {X : Cx} : CallR X (.type "str") (fun xs H Q => (∃ i : Int, xs = [.int i] ∧ i.natAbs.log2 < 1920 ∧ Q (.str (toString i)) H) ∨ (∃ b : Bool, xs = [.bl b] ∧ ∀ z : Str, PyData.strOk z = true → Q (.str z) H)) := fun pins s σ H xs us Q I hv h => by
  rcases h with h | ⟨b, rfl, q⟩
  · exact call_str_int pins s σ H xs us Q I hv h
  · obtain ⟨u, rfl, r1⟩ := vals1 hv
    cases r1
    exact PySem.P.str_of_bool ⟨.str _, H, I.tok _, ⟨_, rfl⟩, q _ (by cases b <;> exact strOk_lit _)⟩
theorem shaped_num (i : Int) : SeqAt.shaped (.int i) = true := by
  unfold SeqAt.shaped
  rw [PyData.canLay0, PyData.depth]
  rfl
theorem shaped_bl (b : Bool) : SeqAt.shaped (.bool b) = true := by
  unfold SeqAt.shaped
  rw [PyData.canLay0, PyData.depth]
  rfl
theorem ThgL.cut {cs : List Addr} {H : Hp} {xs : List V} {ds : List PyData} (h : ThgL cs H xs ds) (lo hi : Option Int) : ∃ es, ThgL cs H (cutV xs lo hi) es ∧ ∀ d ∈ es, d ∈ ds := ⟨_, (h.drop _).take _, fun d hd => List.mem_of_mem_drop (List.mem_of_mem_take hd)⟩
theorem isi_list {K : PySem.W.Frag} {H : Hp} {a : Addr} {xs : List V} (h : SqH H a xs) : ∃ t : Value, TyX K H (.ref a) t ∧ ((H a = some (.lst xs) ∧ PySem.W.kitOne K t (.type "list") = some true) ∨ (H a = some (.tup xs) ∧ PySem.W.kitOne K t (.type "list") = some false)) := by
  rcases h with e | e
  · exact ⟨_, .base (.lst e), .inl ⟨e, kit_ty (by change kitB _ _ = some true; decide +kernel)⟩⟩
  · exact ⟨_, .base (.tup e), .inr ⟨e, kit_ty (by change kitB _ _ = some false; decide +kernel)⟩⟩
def spPut (K : PySem.W.Frag) (n : Nat) : Sp := fun vs H Q _ => ∃ (b : Addr) (t : Int) (cs : List Addr) (v : V) (d : PyData) (m k : Nat), vs = [.ref b, v, .int (n : Int)] ∧ Bx b H t ∧ t + 2000 * ((n : Int) + 1) < 2 ^ 40 ∧ b ∈ cs ∧ Tk cs H ∧ Thg cs H v d ∧ Bq k m d ∧ n + 2 ≤ m ∧ m ≤ 20 ∧ k ≤ 100 ∧ n ≤ 5 ∧
  ∀ v' d' t' H', Thg cs H' v' d' → Bq (k + 1) m d' → t ≤ t' → t' ≤ t + 30 * ((n : Int) + 1) → Bx b H' t' → Kb b H H' → Q v' H'
abbrev sPut : Stmt := topS 45
theorem scPut : FnScope ["_law_box_here", "_law_thing", "_law_deep", "_law_way", "_law_more", "_law_at", "_law_some"] ["_law_box_here", "_law_thing", "_law_deep"] (defScope sPut) := ⟨rfl, rfl, rfl, by decide +kernel, rfl, by decide +kernel, by decide +kernel⟩
section
variable {K : PySem.W.Frag} {mg : Str → Option Value} {P : Program} {w : World} {base : Heap}
theorem ok_Put0 {f : Addr} {fd : FuncData} (F : Fun K "_law_put" "_law_put" sPut f fd) (C__law_take : Cal P w K mg base 1 "_law_take" ["_law_box_here", "_law_many"] spTakeB) (C__law_nested : Cal P w K mg base 2 "_law_nested" ["_law_box_here", "_law_deep"] spNested) (m_tuple : mg "tuple" = none) (m_list : mg "list" = none) (m_isinstance : mg "isinstance" = none) (m_len : mg "len" = none) (m_int : mg "int" = none) (m_str : mg "str" = none) : FnOk P w K mg base CX0 3 f fd ["_law_box_here", "_law_thing", "_law_deep"] (spPut K 0) := by
  refine F.ok scPut (fun vs H Q E h => ?_) (fun cdv A outer s H vs Q E hr h => ?_)
  · obtain ⟨b, t, cs, v, d, m, k, rfl, _⟩ := h
    rfl
  · obtain ⟨b, t, cs, v, d, m, k, rfl, hS, ht, hbc, hT, hv, hq, hnm, hm20, hk, hn5, q⟩ := h
    refine ⟨_, pss_cons (ps_if (pt_mid (PW.pt (pw_or (pt_cmpR op_eq (pv 2) pe_int (nomark _)) (pw_or (pt_not (pt_val (pe_callB call_isiT (by rfl) m_isinstance (by decide +kernel) (pa_cons (pv 1) (pa_cons (pe_tup (pa_cons (pe_bltn (v := .ty "list") (by rfl) m_list (by decide +kernel) rfl) (pa_cons (pe_bltn (v := .ty "tuple") (by rfl) m_tuple (by decide +kernel) rfl) pa_nil))) pa_nil))))) (pw_or (pt_cmpR op_eq (pe_callB call_len_seq (by rfl) m_len PySem.boot_len (pa_cons (pv 1) pa_nil)) pe_int (nomark _)) (pw_or1 (pt_cmpR op_eq (pe_own C__law_take (hr.mono (show 1 ≤ 2 by omega)) (by rfl) (pa_cons (pv 0) (pa_cons pe_int pa_nil))) pe_int (nomark _)))))))) (pss_cons (ps_set (i := 3) scPut.nd rfl (.inl rfl) (pe_own C__law_take (hr.mono (show 1 ≤ 2 by omega)) (by rfl) (pa_cons (pv 0) (pa_cons pe_int pa_nil))))
        (Evl.pss_cut (ps_if (PW.pt (pw_and (pt_cmpR op_eq (pv 3) pe_int (nomark _)) (pw_and1 (pt_val (pe_callB call_isiT (by rfl) m_isinstance (by decide +kernel) (pa_cons (pv 1) (pa_cons (pe_tup (pa_cons (pe_bltn (v := .ty "list") (by rfl) m_list (by decide +kernel) rfl) (pa_cons (pe_bltn (v := .ty "tuple") (by rfl) m_tuple (by decide +kernel) rfl) pa_nil))) pa_nil))))))) (pss_one (ps_ret (pe_ifExp (pt_val (pe_callB call_isi (by rfl) m_isinstance (by decide +kernel) (pa_cons (pv 1) (pa_cons (pe_bltn (v := .ty "list") (by rfl) m_list (by decide +kernel) rfl) pa_nil)))) (pe_callTy call_tuple_of (by rfl) m_tuple (by decide +kernel) (pa_cons (pv 1) pa_nil)) (pe_callTy call_list_of (by rfl) m_list (by decide +kernel) (pa_cons (pv 1) pa_nil)))))
          pss_nil)
        (Evl.pss_cut (ps_if (PW.pt (pw_and (pt_cmpR op_eq (pv 3) pe_int (nomark _)) (pw_and1 (pt_val (pe_callB call_isiT (by rfl) m_isinstance (by decide +kernel) (pa_cons (pv 1) (pa_cons (pe_tup (pa_cons (pe_bltn (v := .ty "list") (by rfl) m_list (by decide +kernel) rfl) (pa_cons (pe_bltn (v := .ty "tuple") (by rfl) m_tuple (by decide +kernel) rfl) pa_nil))) pa_nil))))))) (pss_cons (ps_set (i := 4) scPut.nd rfl (.inl rfl) (pe_lst (pa_cons (pe_own C__law_nested (hr.mono (show 2 ≤ 2 by omega)) (by rfl) (pa_cons (pv 0) (pa_cons (pv 2) pa_nil))) pa_nil)))
          (pss_one (ps_ret (pe_ifExp (pt_val (pe_callB call_isi (by rfl) m_isinstance (by decide +kernel) (pa_cons (pv 1) (pa_cons (pe_bltn (v := .ty "list") (by rfl) m_list (by decide +kernel) rfl) pa_nil)))) (pe_op op_cat (pv 1) (pv 4)) (pe_op op_catA (pv 1) (pe_callTy call_tuple_of (by rfl) m_tuple (by decide +kernel) (pa_cons (pv 4) pa_nil)))))))
          pss_nil)
        (Evl.pss_cut (ps_if (PW.pt (pw_and (pt_cmpR op_eq (pv 3) pe_int (nomark _)) (pw_and1 (pt_val (pe_callB call_isiT (by rfl) m_isinstance (by decide +kernel) (pa_cons (pv 1) (pa_cons (pe_tup (pa_cons (pe_bltn (v := .ty "list") (by rfl) m_list (by decide +kernel) rfl) (pa_cons (pe_bltn (v := .ty "tuple") (by rfl) m_tuple (by decide +kernel) rfl) pa_nil))) pa_nil))))))) (pss_one (ps_ret (pe_slice sl_seq (pv 1) po_none (po_some (pe_un un_neg pe_int)))))
          pss_nil)
        (Evl.pss_cut (ps_if (PW.pt (pw_and (pt_cmpR op_eq (pv 3) pe_int (nomark _)) (pw_and1 (pt_val (pe_callB call_isi (by rfl) m_isinstance (by decide +kernel) (pa_cons (pv 1) (pa_cons (pe_bltn (v := .ty "int") (by rfl) m_int (by decide +kernel) rfl) pa_nil))))))) (pss_one (ps_ret (pe_ix ix_list (pe_lst (pa_cons (pe_cmpR (op_eqD hr.units) (pv 1) pe_int (nomark _)) (pa_cons (pe_op op_addBI (pv 1) pe_int) (pa_cons (pe_callTy cr_strBI (by rfl) m_str (by decide +kernel) (pa_cons (pv 1) pa_nil)) (pa_cons (pe_lst (pa_cons (pv 1) pa_nil)) pa_nil))))) (pe_own C__law_take (hr.mono (show 1 ≤ 2 by omega)) (by rfl) (pa_cons (pv 0) (pa_cons pe_int pa_nil))) (fun _ _ => rfl))))
          pss_nil)
        (pss_one (ps_ret (pe_own C__law_nested (hr.mono (show 2 ≤ 2 by omega)) (by rfl) (pa_cons (pv 0) (pa_cons (pv 2) pa_nil))))))))))
        pss_nil)
      pss_never, ?_⟩
    have hqk : ∀ {m' : Nat} {e : PyData}, Bq k m' e → Bq (k + 1) m' e := fun h => h.more (Nat.le_succ _)
    have z63 := sizeLine_eq
    refine ⟨fun c H' => ∃ t', t ≤ t' ∧ t' ≤ t + 1 ∧ Bx b H' t' ∧ Kb b H H' ∧ (c = false → 0 ≠ 0 ∧ ∃ ds, rowOf d = some ds ∧ 0 < ds.length), ?_, ?_⟩
    · have yes : ∀ {H'}, Same H H' → ∃ t', t ≤ t' ∧ t' ≤ t + 1 ∧ Bx b H' t' ∧ Kb b H H' ∧ (true = false → 0 ≠ 0 ∧ ∃ ds, rowOf d = some ds ∧ 0 < ds.length) := fun s => ⟨t, Int.le_refl _, by omega, hS.same s, Kb.same s, fun z => nomatch z⟩
      refine ⟨_, rfl, rfl, _, rfl, ite2 (fun c => yes (Same.refl _)) (fun c => ?_)⟩
      have hn0 : 0 ≠ 0 := fun z => c (decide_eq_true (by rw [z]; rfl))
      refine ⟨_, rfl, (by show 2 ≤ sizeLine; decide), fun p np => ?_⟩
      have sp := same_upd (o := .tup [.ty "list", .ty "tuple"]) np
      obtain ⟨tx, g1, g2⟩ := isi_row (K := K) (hv.same sp)
      refine ⟨v, p, _, tx, _, _, rfl, upd_same, .cons (.ty _) (.cons (.ty _) .nil), g1, g2, _, rfl, ?_⟩
      cases hr' : rowOf d with
      | none => exact iteT ⟨t, Int.le_refl _, by omega, hS.same sp, Kb.same sp, fun z => nomatch z⟩
      | some ds =>
      obtain ⟨a, xs, rfl, hX, hl⟩ := (hv.same sp).row hr'
      refine iteF ⟨_, rfl, a, xs, rfl, hX.imp SqL.of (fun e => .inl (.inl e)), rfl, _, rfl, ite2 (fun c => ⟨t, Int.le_refl _, by omega, hS.same sp, Kb.same sp, fun z => nomatch z⟩) (fun c => ?_)⟩
      have hpos : 0 < ds.length := by
        rw [← hl.1]
        exact Nat.pos_of_ne_zero fun z => c (decide_eq_true (by rw [z]; rfl))
      refine ⟨_, rfl, b, t, 4, rfl, hS.same sp, by omega, by decide, by decide, fun r t1 H1 r0 r1 u0 u1 hS1 k1 => ⟨rfl, _, rfl, t1, u0, u1, hS1, (Kb.same sp).trans k1, fun _ => ⟨hn0, ds, rfl, hpos⟩⟩⟩
    rintro c H1 ⟨t1, u0, u1, hS1, k1, hno⟩
    have hv1 := hv.kb hS k1 hbc
    have hT1 := hT.kb k1 hS1
    cases c
    · exact absurd rfl (hno rfl).1
    · refine iteT ⟨_, rfl, b, t1, 5, rfl, hS1, by omega, by decide, by decide, fun w1 t2 H2 w10 w11 u2 u3 hS2 k2 => ?_⟩
      have hv2 := hv1.kb hS1 k2 hbc
      have hT2 := hT1.kb k2 hS2
      have k02 := k1.trans k2
      have qs : ∀ {H' : Hp} {v' : V} {d' : PyData}, Same H2 H' → Thg cs H' v' d' → Bq (k + 1) m d' → Q v' H' := fun s h1 h2 => q _ _ t2 _ h1 h2 (by omega) (by omega) (hS2.same s) (k02.trans (Kb.same s))
      -- a list for a tuple, a tuple for a list
      refine ⟨fun σ H' => ∃ y4 y5 y6 : Option V, σ = [some (.ref b), some v, some (.int ((0 : Nat) : Int)), some (.int w1), y4, y5, y6] ∧ Same H2 H', ?_, ?_⟩
      · refine ⟨_, rfl, rfl, _, rfl, ite2 (fun c => ?_) (fun c => ⟨_, _, _, rfl, Same.refl _⟩)⟩
        refine ⟨_, rfl, (by show 2 ≤ sizeLine; decide), fun p np => ?_⟩
        have sp := same_upd (o := .tup [.ty "list", .ty "tuple"]) np
        obtain ⟨tx, g1, g2⟩ := isi_row (K := K) (hv2.same sp)
        refine ⟨v, p, _, tx, _, _, rfl, upd_same, .cons (.ty _) (.cons (.ty _) .nil), g1, g2, _, rfl, ?_⟩
        cases hr' : rowOf d with
        | none => exact iteF ⟨_, _, _, rfl, sp⟩
        | some ds =>
        obtain ⟨a, xs, rfl, hX, hl⟩ := (hv2.same sp).row hr'
        obtain ⟨m', rfl, hdl, hdq⟩ := hq.row hr'
        obtain ⟨ty, j1, j2⟩ := isi_list (K := K) hX
        rcases j2 with ⟨e, j2⟩ | ⟨e, j2⟩
        · exact iteT ⟨_, rfl, _, _, ty, _, _, rfl, .ty _, j1, j2, _, rfl, iteT ⟨_, rfl, a, xs, rfl, .inl ⟨SqL.of e, fun l nl => qs (sp.trans (same_upd nl)) ((hl.same (same_upd nl)).tup upd_same) (.tup (by omega) fun x hx => hqk (hdq x hx))⟩⟩⟩
        · exact iteT ⟨_, rfl, _, _, ty, _, _, rfl, .ty _, j1, j2, _, rfl, iteF ⟨_, rfl, a, xs, rfl, .inr (.inl (.inl e)), fun l nl => qs (sp.trans (same_upd nl)) ((hl.same (same_upd nl)).lst upd_same ((hT2.same sp).off nl)) (.lst (by omega) fun x hx => hqk (hdq x hx))⟩⟩
      rintro σ3 H3 ⟨y4, y5, y6, rfl, s3⟩
      -- a part more
      refine ⟨fun σ H' => ∃ y4 y5 y6 : Option V, σ = [some (.ref b), some v, some (.int ((0 : Nat) : Int)), some (.int w1), y4, y5, y6] ∧ Same H2 H', ?_, ?_⟩
      · refine ⟨_, rfl, rfl, _, rfl, ite2 (fun c => ?_) (fun c => ⟨_, _, _, rfl, s3⟩)⟩
        refine ⟨_, rfl, (by show 2 ≤ sizeLine; decide), fun p np => ?_⟩
        have sp := s3.trans (same_upd (o := .tup [.ty "list", .ty "tuple"]) np)
        obtain ⟨tx, g1, g2⟩ := isi_row (K := K) (hv2.same sp)
        refine ⟨v, p, _, tx, _, _, rfl, upd_same, .cons (.ty _) (.cons (.ty _) .nil), g1, g2, _, rfl, ?_⟩
        cases hr' : rowOf d with
        | none => exact iteF ⟨_, _, _, rfl, sp⟩
        | some ds =>
        obtain ⟨m', rfl, hdl, hdq⟩ := hq.row hr'
        refine iteT ⟨_, rfl, _, rfl, b, t2, ((0 : Nat) : Int), cs, rfl, hS2.same sp, by omega, by omega, by omega, hbc, hT2.same sp, fun v1 d1 t3 H4 hv4 hq4 u4 u5 hS4 k4 => ⟨(by show 1 ≤ sizeLine; decide), fun Y nY => ?_⟩⟩
        have sY := same_upd (o := .lst [v1]) nY
        have hT4 := (hT2.same sp).kb k4 hS4
        have k24 := (Kb.same sp).trans k4
        have eY := upd_same (H := H4) (a := Y) (o := .lst [v1])
        have hq1' : Bq (k + 1) m' d1 := (hq4.up (by omega)).more (Nat.zero_le _)
        have hv4' := hv4.same sY
        have hvY := ((hv2.kb hS2 k24 hbc).same sY)
        obtain ⟨a, xs, rfl, hX, hl⟩ := hvY.row hr'
        have hxl := hl.1
        have qs4 : ∀ {H' : Hp} {v' : V} {d' : PyData}, Same H4 H' → Thg cs H' v' d' → Bq (k + 1) (m' + 1) d' → Q v' H' := fun s h1 h2 => q _ _ t3 _ h1 h2 (by omega) (by omega) (hS4.same s) ((k02.trans k24).trans (Kb.same s))
        obtain ⟨ty, j1, j2⟩ := isi_list (K := K) hX
        have hall : ∀ x ∈ ds ++ [d1], Bq (k + 1) m' x := fun x hx => by
          rcases List.mem_append.mp hx with z | z
          · exact hqk (hdq x z)
          · rw [List.mem_singleton.mp z]
            exact hq1'
        have hlen : (ds ++ [d1]).length ≤ 400 + (k + 1) := by rw [List.length_append]; exact Nat.succ_le_succ hdl
        rcases j2 with ⟨e, j2⟩ | ⟨e, j2⟩
        · refine ⟨_, rfl, _, _, ty, _, _, rfl, .ty _, j1, j2, _, rfl, iteT ⟨_, rfl, _, rfl, a, Y, xs, [v1], rfl, rfl, e, eY, (by show xs.length + 1 ≤ sizeLine; omega), fun Z nZ => ?_⟩⟩
          have sZ := same_upd (o := .lst (xs ++ [v1])) nZ
          exact qs4 (sY.trans sZ) (((hl.same sZ).append (ThgL.one (hv4'.same sZ))).lst upd_same ((hT4.same sY).off nZ)) (.lst hlen hall)
        · refine ⟨_, rfl, _, _, ty, _, _, rfl, .ty _, j1, j2, _, rfl, iteF ⟨_, rfl, _, rfl, Y, [v1], rfl, .inl ⟨SqL.of eY, fun Y2 nY2 => ?_⟩⟩⟩
          have sY2 := same_upd (o := .tup [v1]) nY2
          have sYY := sY.trans sY2
          have hv42 := hv4'.same sY2
          refine ⟨a, Y2, xs, [v1], rfl, rfl, .inl (.inl (sY2 _ _ e)), .inl (.inl upd_same), (by show xs.length + 1 ≤ sizeLine; omega), fun hx => ?_, (fun _ z => nomatch z), fun _ _ Z nZ => ?_⟩
          · subst hx
            have hds : ds = [] := List.eq_nil_of_length_eq_zero (by rw [← hxl]; rfl)
            rw [hds] at hall hlen
            exact qs4 sYY ((ThgL.one hv42).tup upd_same) (.tup hlen hall)
          · have sZ := same_upd (o := .tup (xs ++ [v1])) nZ
            exact qs4 (sYY.trans sZ) ((((hl.same sY2).same sZ).append (ThgL.one (hv42.same sZ))).tup upd_same) (.tup hlen hall)
      rintro σ4 H4 ⟨y4, y5, y6, rfl, s4⟩
      -- a part fewer
      refine ⟨fun σ H' => ∃ y4 y5 y6 : Option V, σ = [some (.ref b), some v, some (.int ((0 : Nat) : Int)), some (.int w1), y4, y5, y6] ∧ Same H2 H', ?_, ?_⟩
      · refine ⟨_, rfl, rfl, _, rfl, ite2 (fun c => ?_) (fun c => ⟨_, _, _, rfl, s4⟩)⟩
        refine ⟨_, rfl, (by show 2 ≤ sizeLine; decide), fun p np => ?_⟩
        have sp := s4.trans (same_upd (o := .tup [.ty "list", .ty "tuple"]) np)
        obtain ⟨tx, g1, g2⟩ := isi_row (K := K) (hv2.same sp)
        refine ⟨v, p, _, tx, _, _, rfl, upd_same, .cons (.ty _) (.cons (.ty _) .nil), g1, g2, _, rfl, ?_⟩
        cases hr' : rowOf d with
        | none => exact iteF ⟨_, _, _, rfl, sp⟩
        | some ds =>
        obtain ⟨m', rfl, hdl, hdq⟩ := hq.row hr'
        obtain ⟨a, xs, rfl, hX, hl⟩ := (hv2.same sp).row hr'
        obtain ⟨es, hes, hin⟩ := hl.cut none (some (-1))
        have hel : es.length ≤ 400 + (k + 1) := by
          have := cutV_length xs none (some (-1))
          have h1 := hes.1
          have h2 := hl.1
          omega
        refine iteT ⟨_, rfl, _, rfl, _, rfl, ?_⟩
        rcases hX with e | e
        · exact .inl ⟨a, xs, rfl, SqL.of e, fun Z nZ => qs (sp.trans (same_upd nZ)) ((hes.same (same_upd nZ)).lst upd_same ((hT2.same sp).off nZ)) (.lst hel fun x hx => hqk (hdq x (hin x hx)))⟩
        · exact .inr ⟨a, xs, rfl, .inl (.inl e), fun _ => qs sp (hl.tup e) (.tup (by omega) fun x hx => hqk (hdq x hx)), fun _ Z nZ => qs (sp.trans (same_upd nZ)) ((hes.same (same_upd nZ)).tup upd_same) (.tup hel fun x hx => hqk (hdq x (hin x hx)))⟩
      rintro σ5 H5 ⟨y4, y5, y6, rfl, s5⟩
      -- a number, a truth
      refine ⟨fun σ H' => ∃ y4 y5 y6 : Option V, σ = [some (.ref b), some v, some (.int ((0 : Nat) : Int)), some (.int w1), y4, y5, y6] ∧ Same H2 H', ?_, ?_⟩
      · refine ⟨_, rfl, rfl, _, rfl, ite2 (fun c => ?_) (fun c => ⟨_, _, _, rfl, s5⟩)⟩
        obtain ⟨tx, g1, g2⟩ := isi_int (K := K) (hv2.same s5)
        refine ⟨_, rfl, _, _, tx, _, _, rfl, .ty _, g1, g2, _, rfl, ?_⟩
        cases hi : isIntD d with
        | false => exact iteF ⟨_, _, _, rfl, s5⟩
        | true =>
        refine iteT ?_
        have hv5 := hv2.same s5
        have hT5 := hT2.same s5
        have num : ∃ i1 : Int, i1.natAbs < 10 ^ 22 + (k + 1) ∧ ∃ zt : Str, PyData.strOk zt = true ∧ ∀ (R : V → Prop), (∀ e : Bool, True → R (.bl e)) → True := ⟨0, by omega, _, strOk_lit "", fun _ _ => trivial⟩
        have fin : ∀ (e : Bool) (i1 : Int) (zt : Str) (P1 Y : Addr) (H8 : Hp), i1.natAbs < 10 ^ 22 + (k + 1) → PyData.strOk zt = true → H5 P1 = none → H8 = upd (upd H5 P1 (.lst [v])) Y (.lst [V.bl e, .int i1, .str zt, .ref P1]) → upd H5 P1 (.lst [v]) Y = none →
            ∀ (r : Int) (t3 : Int) (H9 : Hp), 0 ≤ r → r < 4 → t2 ≤ t3 → t3 ≤ t2 + 1 → Bx b H9 t3 → Kb b H8 H9 → ∃ (z : V), atI [V.bl e, .int i1, .str zt, .ref P1] r = some z ∧ H9 Y = some (.lst [V.bl e, .int i1, .str zt, .ref P1]) ∧ Q z H9 := fun e i1 zt P1 Y H8 h1 h2 nP eH nY r t3 H9 r0 r1 u4 u5 hS9 k9 => by
          subst eH
          have sP := same_upd (o := .lst [v]) nP
          have sY := same_upd (o := .lst [V.bl e, .int i1, .str zt, .ref P1]) nY
          have offY : Y ≠ b := ((hS2.same s5).same sP).off nY
          have offP : P1 ≠ b := (hS2.same s5).off nP
          obtain ⟨z, ez, hz⟩ := pick_at (xs := [V.bl e, .int i1, .str zt, .ref P1]) (n := 4) rfl r0 r1
          refine ⟨z, ez, k9.new offY, ?_⟩
          have S8 := (sP.trans sY)
          have hS8 := (hS2.same s5).same S8
          have hv9 := (hv5.same S8).kb hS8 k9 hbc
          have kk9 := (k02.trans (Kb.same (s5.trans S8))).trans k9
          have fi : ∀ {d'}, Thg cs H9 z d' → Bq (k + 1) m d' → Q z H9 := fun g1 g2 => q _ _ t3 _ g1 g2 (by omega) (by omega) hS9 kk9
          simp only [List.mem_cons, List.not_mem_nil, or_false] at hz
          rcases hz with rfl | rfl | rfl | rfl
          · exact fi (.bl _) .bl
          · exact fi (.int _) (.int h1)
          · exact fi (.str _) (.str h2)
          · obtain ⟨m', rfl⟩ : ∃ m', m = m' + 1 := ⟨m - 1, by omega⟩
            have hq0 : Bq (k + 1) m' d := by
              cases d with
              | int _ => cases hq with | int h => exact .int (by omega)
              | bool _ => exact .bl
              | none => cases hi
              | str _ => cases hi
              | list _ => cases hi
              | tuple _ => cases hi
              | dict _ => cases hi
            exact fi ((ThgL.one hv9).lst (k9.new' offP (sY _ _ upd_same)) (hT5.off nP)) (.lst (by show 1 ≤ _; omega) fun x hx => by rw [List.mem_singleton.mp hx]; exact hq0)
        clear num
        cases d with
        | int i =>
          obtain rfl := hv5.inv_int
          have hib : i.natAbs < 10 ^ 22 + k := by cases hq with | int h => exact h
          have hlog : i.natAbs.log2 < 1920 := by
            by_cases z : i.natAbs = 0
            · rw [z]; decide
            · exact Nat.lt_trans ((Nat.log2_lt (k := 130) z).mpr (Nat.lt_trans (show i.natAbs < 10 ^ 23 by omega) (by decide))) (by decide)
          refine ⟨_, rfl, _, _, .int _, .int _, shaped_num i, by rfl, _, rfl, .inl ⟨_, _, rfl, rfl, _, rfl, .inl ⟨_, rfl, hlog, _, rfl, (by show 1 ≤ sizeLine; decide), fun P1 nP => ⟨(by show 4 ≤ sizeLine; decide), fun Y nY => ?_⟩⟩⟩⟩
          refine ⟨_, rfl, b, t2, 4, rfl, ((hS2.same s5).same (same_upd nP)).same (same_upd nY), by omega, by decide, by decide, fun r t3 H9 r0 r1 u4 u5 hS9 k9 => ?_⟩
          obtain ⟨z, ez, eY, qz⟩ := fin _ (i + 1) _ P1 Y _ (by omega) (strOk_lit _) nP rfl nY r t3 H9 r0 r1 u4 u5 hS9 k9
          exact ⟨Y, _, _, z, rfl, rfl, SqL.of eY, ez, qz⟩
        | bool bb =>
          obtain rfl := hv5.inv_bl
          refine ⟨_, rfl, _, _, .bl _, .int _, shaped_bl bb, by rfl, _, rfl, .inr ⟨_, _, rfl, rfl, _, rfl, .inr ⟨_, rfl, fun zt hzt => ⟨_, rfl, (by show 1 ≤ sizeLine; decide), fun P1 nP => ⟨(by show 4 ≤ sizeLine; decide), fun Y nY => ?_⟩⟩⟩⟩⟩
          refine ⟨_, rfl, b, t2, 4, rfl, ((hS2.same s5).same (same_upd nP)).same (same_upd nY), by omega, by decide, by decide, fun r t3 H9 r0 r1 u4 u5 hS9 k9 => ?_⟩
          obtain ⟨z, ez, eY, qz⟩ := fin _ ((if bb = true then (1 : Int) else 0) + 1) _ P1 Y _ (by split <;> omega) hzt nP rfl nY r t3 H9 r0 r1 u4 u5 hS9 k9
          exact ⟨Y, _, _, z, rfl, rfl, SqL.of eY, ez, qz⟩
        | none => cases hi
        | str _ => cases hi
        | list _ => cases hi
        | tuple _ => cases hi
        | dict _ => cases hi
      rintro σ6 H6 ⟨y4, y5, y6, rfl, s6⟩
      exact ⟨_, rfl, _, rfl, b, t2, ((0 : Nat) : Int), cs, rfl, hS2.same s6, by omega, by omega, by omega, hbc, hT2.same s6, fun v1 d1 t3 H7 hv7 hq7 u4 u5 hS7 k7 => q _ _ t3 _ hv7 ((hq7.up (by omega)).more (Nat.zero_le _)) (by omega) (by omega) hS7 (k02.trans ((Kb.same s6).trans k7))⟩
theorem ok_PutS {n : Nat} {f : Addr} {fd : FuncData} (F : Fun K "_law_put" "_law_put" sPut f fd) (C__law_take : Cal P w K mg base 1 "_law_take" ["_law_box_here", "_law_many"] spTakeB) (C__law_nested : Cal P w K mg base 2 "_law_nested" ["_law_box_here", "_law_deep"] spNested) (C__law_put : Cal P w K mg base (n + 3) "_law_put" ["_law_box_here", "_law_thing", "_law_deep"] (spPut K n)) (m_tuple : mg "tuple" = none) (m_list : mg "list" = none) (m_isinstance : mg "isinstance" = none) (m_len : mg "len" = none) (m_int : mg "int" = none) (m_str : mg "str" = none) : FnOk P w K mg base CX0 (n + 4) f fd ["_law_box_here", "_law_thing", "_law_deep"] (spPut K (n + 1)) := by
  refine F.ok scPut (fun vs H Q E h => ?_) (fun cdv A outer s H vs Q E hr h => ?_)
  · obtain ⟨b, t, cs, v, d, m, k, rfl, _⟩ := h
    rfl
  · obtain ⟨b, t, cs, v, d, m, k, rfl, hS, ht, hbc, hT, hv, hq, hnm, hm20, hk, hn5, q⟩ := h
    refine ⟨_, pss_cons (ps_if (pt_mid (PW.pt (pw_or (pt_cmpR op_eq (pv 2) pe_int (nomark _)) (pw_or (pt_not (pt_val (pe_callB call_isiT (by rfl) m_isinstance (by decide +kernel) (pa_cons (pv 1) (pa_cons (pe_tup (pa_cons (pe_bltn (v := .ty "list") (by rfl) m_list (by decide +kernel) rfl) (pa_cons (pe_bltn (v := .ty "tuple") (by rfl) m_tuple (by decide +kernel) rfl) pa_nil))) pa_nil))))) (pw_or (pt_cmpR op_eq (pe_callB call_len_seq (by rfl) m_len PySem.boot_len (pa_cons (pv 1) pa_nil)) pe_int (nomark _)) (pw_or1 (pt_cmpR op_eq (pe_own C__law_take (hr.mono (show 1 ≤ (n + 3) by omega)) (by rfl) (pa_cons (pv 0) (pa_cons pe_int pa_nil))) pe_int (nomark _)))))))) (pss_cons (ps_set (i := 3) scPut.nd rfl (.inl rfl) (pe_own C__law_take (hr.mono (show 1 ≤ (n + 3) by omega)) (by rfl) (pa_cons (pv 0) (pa_cons pe_int pa_nil))))
        (Evl.pss_cut (ps_if (PW.pt (pw_and (pt_cmpR op_eq (pv 3) pe_int (nomark _)) (pw_and1 (pt_val (pe_callB call_isiT (by rfl) m_isinstance (by decide +kernel) (pa_cons (pv 1) (pa_cons (pe_tup (pa_cons (pe_bltn (v := .ty "list") (by rfl) m_list (by decide +kernel) rfl) (pa_cons (pe_bltn (v := .ty "tuple") (by rfl) m_tuple (by decide +kernel) rfl) pa_nil))) pa_nil))))))) (pss_one (ps_ret (pe_ifExp (pt_val (pe_callB call_isi (by rfl) m_isinstance (by decide +kernel) (pa_cons (pv 1) (pa_cons (pe_bltn (v := .ty "list") (by rfl) m_list (by decide +kernel) rfl) pa_nil)))) (pe_callTy call_tuple_of (by rfl) m_tuple (by decide +kernel) (pa_cons (pv 1) pa_nil)) (pe_callTy call_list_of (by rfl) m_list (by decide +kernel) (pa_cons (pv 1) pa_nil)))))
          pss_nil)
        (Evl.pss_cut (ps_if (PW.pt (pw_and (pt_cmpR op_eq (pv 3) pe_int (nomark _)) (pw_and1 (pt_val (pe_callB call_isiT (by rfl) m_isinstance (by decide +kernel) (pa_cons (pv 1) (pa_cons (pe_tup (pa_cons (pe_bltn (v := .ty "list") (by rfl) m_list (by decide +kernel) rfl) (pa_cons (pe_bltn (v := .ty "tuple") (by rfl) m_tuple (by decide +kernel) rfl) pa_nil))) pa_nil))))))) (pss_cons (ps_set (i := 4) scPut.nd rfl (.inl rfl) (pe_lst (pa_cons (pe_own C__law_nested (hr.mono (show 2 ≤ (n + 3) by omega)) (by rfl) (pa_cons (pv 0) (pa_cons (pv 2) pa_nil))) pa_nil)))
          (pss_one (ps_ret (pe_ifExp (pt_val (pe_callB call_isi (by rfl) m_isinstance (by decide +kernel) (pa_cons (pv 1) (pa_cons (pe_bltn (v := .ty "list") (by rfl) m_list (by decide +kernel) rfl) pa_nil)))) (pe_op op_cat (pv 1) (pv 4)) (pe_op op_catA (pv 1) (pe_callTy call_tuple_of (by rfl) m_tuple (by decide +kernel) (pa_cons (pv 4) pa_nil)))))))
          pss_nil)
        (Evl.pss_cut (ps_if (PW.pt (pw_and (pt_cmpR op_eq (pv 3) pe_int (nomark _)) (pw_and1 (pt_val (pe_callB call_isiT (by rfl) m_isinstance (by decide +kernel) (pa_cons (pv 1) (pa_cons (pe_tup (pa_cons (pe_bltn (v := .ty "list") (by rfl) m_list (by decide +kernel) rfl) (pa_cons (pe_bltn (v := .ty "tuple") (by rfl) m_tuple (by decide +kernel) rfl) pa_nil))) pa_nil))))))) (pss_one (ps_ret (pe_slice sl_seq (pv 1) po_none (po_some (pe_un un_neg pe_int)))))
          pss_nil)
        (Evl.pss_cut (ps_if (PW.pt (pw_and (pt_cmpR op_eq (pv 3) pe_int (nomark _)) (pw_and1 (pt_val (pe_callB call_isi (by rfl) m_isinstance (by decide +kernel) (pa_cons (pv 1) (pa_cons (pe_bltn (v := .ty "int") (by rfl) m_int (by decide +kernel) rfl) pa_nil))))))) (pss_one (ps_ret (pe_ix ix_list (pe_lst (pa_cons (pe_cmpR (op_eqD hr.units) (pv 1) pe_int (nomark _)) (pa_cons (pe_op op_addBI (pv 1) pe_int) (pa_cons (pe_callTy cr_strBI (by rfl) m_str (by decide +kernel) (pa_cons (pv 1) pa_nil)) (pa_cons (pe_lst (pa_cons (pv 1) pa_nil)) pa_nil))))) (pe_own C__law_take (hr.mono (show 1 ≤ (n + 3) by omega)) (by rfl) (pa_cons (pv 0) (pa_cons pe_int pa_nil))) (fun _ _ => rfl))))
          pss_nil)
        (pss_one (ps_ret (pe_own C__law_nested (hr.mono (show 2 ≤ (n + 3) by omega)) (by rfl) (pa_cons (pv 0) (pa_cons (pv 2) pa_nil))))))))))
        pss_nil)
      (pss_cons (ps_set (i := 5) scPut.nd rfl (.inl rfl) (pe_own C__law_take (hr.mono (show 1 ≤ (n + 3) by omega)) (by rfl) (pa_cons (pv 0) (pa_cons (pe_callB call_len_seq (by rfl) m_len PySem.boot_len (pa_cons (pv 1) pa_nil)) pa_nil))))
      (pss_cons (ps_set (i := 6) scPut.nd rfl (.inl rfl) (pe_callTy call_list_of (by rfl) m_list (by decide +kernel) (pa_cons (pv 1) pa_nil)))
      (pss_cons (ps_asg (pe_own C__law_put hr (by rfl) (pa_cons (pv 0) (pa_cons (pe_ix ix_list (pv 6) (pv 5) (fun _ _ => rfl)) (pa_cons (pe_op op_sub (pv 2) pe_int) pa_nil)))) (pg_sub (pv 6) (pv 5) set_list))
      (pss_one (ps_ret (pe_ifExp (pt_val (pe_callB call_isi (by rfl) m_isinstance (by decide +kernel) (pa_cons (pv 1) (pa_cons (pe_bltn (v := .ty "list") (by rfl) m_list (by decide +kernel) rfl) pa_nil)))) (pv 6) (pe_callTy call_tuple_of (by rfl) m_tuple (by decide +kernel) (pa_cons (pv 6) pa_nil)))))))), ?_⟩
    have hqk : ∀ {m' : Nat} {e : PyData}, Bq k m' e → Bq (k + 1) m' e := fun h => h.more (Nat.le_succ _)
    have z63 := sizeLine_eq
    refine ⟨fun c H' => ∃ t', t ≤ t' ∧ t' ≤ t + 1 ∧ Bx b H' t' ∧ Kb b H H' ∧ (c = false → (n + 1) ≠ 0 ∧ ∃ ds, rowOf d = some ds ∧ 0 < ds.length), ?_, ?_⟩
    · have yes : ∀ {H'}, Same H H' → ∃ t', t ≤ t' ∧ t' ≤ t + 1 ∧ Bx b H' t' ∧ Kb b H H' ∧ (true = false → (n + 1) ≠ 0 ∧ ∃ ds, rowOf d = some ds ∧ 0 < ds.length) := fun s => ⟨t, Int.le_refl _, by omega, hS.same s, Kb.same s, fun z => nomatch z⟩
      refine ⟨_, rfl, rfl, _, rfl, ite2 (fun c => yes (Same.refl _)) (fun c => ?_)⟩
      have hn0 : (n + 1) ≠ 0 := fun z => c (decide_eq_true (by rw [z]; rfl))
      refine ⟨_, rfl, (by show 2 ≤ sizeLine; decide), fun p np => ?_⟩
      have sp := same_upd (o := .tup [.ty "list", .ty "tuple"]) np
      obtain ⟨tx, g1, g2⟩ := isi_row (K := K) (hv.same sp)
      refine ⟨v, p, _, tx, _, _, rfl, upd_same, .cons (.ty _) (.cons (.ty _) .nil), g1, g2, _, rfl, ?_⟩
      cases hr' : rowOf d with
      | none => exact iteT ⟨t, Int.le_refl _, by omega, hS.same sp, Kb.same sp, fun z => nomatch z⟩
      | some ds =>
      obtain ⟨a, xs, rfl, hX, hl⟩ := (hv.same sp).row hr'
      refine iteF ⟨_, rfl, a, xs, rfl, hX.imp SqL.of (fun e => .inl (.inl e)), rfl, _, rfl, ite2 (fun c => ⟨t, Int.le_refl _, by omega, hS.same sp, Kb.same sp, fun z => nomatch z⟩) (fun c => ?_)⟩
      have hpos : 0 < ds.length := by
        rw [← hl.1]
        exact Nat.pos_of_ne_zero fun z => c (decide_eq_true (by rw [z]; rfl))
      refine ⟨_, rfl, b, t, 4, rfl, hS.same sp, by omega, by decide, by decide, fun r t1 H1 r0 r1 u0 u1 hS1 k1 => ⟨rfl, _, rfl, t1, u0, u1, hS1, (Kb.same sp).trans k1, fun _ => ⟨hn0, ds, rfl, hpos⟩⟩⟩
    rintro c H1 ⟨t1, u0, u1, hS1, k1, hno⟩
    have hv1 := hv.kb hS k1 hbc
    have hT1 := hT.kb k1 hS1
    cases c
    · obtain ⟨_, ds, hrow, hpos⟩ := hno rfl
      refine iteF ?_
      obtain ⟨a, xs, rfl, hX, hl⟩ := hv1.row hrow
      obtain ⟨m', rfl, hdl, hdq⟩ := hq.row hrow
      have hxl := hl.1
      refine ⟨_, rfl, _, rfl, a, xs, rfl, hX.imp SqL.of (fun e => .inl (.inl e)), b, t1, _, rfl, hS1, by omega, by omega, by omega, fun j1 t2 H2 j10 j11 u2 u3 hS2 k2 => ?_⟩
      obtain ⟨j, rfl⟩ := Int.eq_ofNat_of_zero_le j10
      have jl0 : j < xs.length := by omega
      have hv2 := hv1.kb hS1 k2 hbc
      obtain ⟨a', xs', ea, hX2, hl2⟩ := hv2.row hrow
      cases ea
      have hxl2 := hl2.1
      have jl : j < xs'.length := by omega
      have hT2 := hT1.kb k2 hS2
      refine ⟨_, rfl, a, xs', rfl, hX2.imp SqL.of (fun e => .inl (.inl e)), fun l nl => ?_⟩
      have sl := same_upd (o := .lst xs') nl
      have el := upd_same (H := H2) (a := l) (o := .lst xs')
      have nlb : l ≠ b := hS2.off nl
      have ex : xs'[j]? = some xs'[j] := List.getElem?_eq_getElem jl
      have edj : ds[j]? = some ds[j] := List.getElem?_eq_getElem (by omega)
      have hl3 : ThgL (l :: cs) (upd H2 l (.lst xs')) xs' ds := (hl2.more nl).same sl
      have hxj := hl3.2 j _ _ ex edj
      have hT3 : Tk (l :: cs) (upd H2 l (.lst xs')) := fun c hc => by
        rcases List.mem_cons.mp hc with rfl | hc
        · rw [el]; exact fun z => nomatch z
        · exact (hT2.same sl) c hc
      refine ⟨_, rfl, _, rfl, _, rfl, l, xs', (j : Int), xs'[j], rfl, rfl, SqL.of el, atI_nat ex, _, rfl, _, _, rfl, rfl, b, t2, l :: cs, xs'[j], ds[j], m', k, (by show [V.ref b, xs'[j], V.int (((n + 1 : Nat) : Int) - 1)] = _; rw [show (((n + 1 : Nat) : Int) - 1) = (n : Int) by omega]), hS2.same sl, by omega, List.mem_cons_of_mem _ hbc, hT3, hxj, hdq _ (List.getElem_mem (by omega)), by omega, by omega, hk, by omega, fun v' d' t3 H4 hv' hq' u4 u5 hS4 k4 => ?_⟩
      have el4 := k4 _ _ nlb el
      have hl4 := hl3.kb (hS2.same sl) k4 (List.mem_cons_of_mem _ hbc)
      refine ⟨_, rfl, _, rfl, l, xs', (j : Int), j, rfl, rfl, el4, ixN_of jl, ?_⟩
      have hT4 : Tk cs H4 := fun c hc => (hT3.kb k4 hS4) c (List.mem_cons_of_mem _ hc)
      have nlc : l ∉ cs := hT2.off nl
      have hl5 : ThgL (l :: cs) (upd H4 l (.lst (xs'.set j v'))) (xs'.set j v') (ds.set j d') := (hl4.set j hv').upd el4 (List.mem_cons_self ..)
      have el5 := upd_same (H := H4) (a := l) (o := .lst (xs'.set j v'))
      have hS5 : Bx b (upd H4 l (.lst (xs'.set j v'))) t3 := hS4.upd nlb
      have hqs : ∀ x ∈ ds.set j d', Bq (k + 1) m' x := fun x hx => by
        rcases List.mem_or_eq_of_mem_set hx with z | z
        · exact hqk (hdq x z)
        · rw [z]; exact hq'
      have hln : (ds.set j d').length ≤ 400 + (k + 1) := by rw [List.length_set]; omega
      have nlH : H l = none := (k1.trans k2).free hS2 nl
      have k05 : Kb b H (upd H4 l (.lst (xs'.set j v'))) := fun c o n e => by
        rw [upd_ne (ne_of_none e nlH)]
        exact k4 _ _ n (sl _ _ (k2 _ _ n (k1 _ _ n e)))
      have hv5 : Thg (l :: cs) (upd H4 l (.lst (xs'.set j v'))) (.ref a) d := (((hv2.more nl).same sl).kb (hS2.same sl) k4 (List.mem_cons_of_mem _ hbc)).upd el4 (List.mem_cons_self ..)
      obtain ⟨a3, xs3, ea3, hX5, _⟩ := hv5.row hrow
      cases ea3
      obtain ⟨ty, w1, w2⟩ := isi_list (K := K) hX5
      rcases w2 with ⟨e, w2⟩ | ⟨e, w2⟩
      · exact ⟨_, rfl, _, _, ty, _, _, rfl, .ty _, w1, w2, _, rfl, iteT ⟨_, rfl, q _ _ t3 _ ((hl5.less (fun c hc => List.mem_cons_of_mem _ hc)).lst el5 nlc) (.lst hln hqs) (by omega) (by omega) hS5 k05⟩⟩
      · refine ⟨_, rfl, _, _, ty, _, _, rfl, .ty _, w1, w2, _, rfl, iteF ⟨_, rfl, l, _, rfl, .inl ⟨SqL.of el5, fun Z nZ => q _ _ t3 _ (((hl5.less (fun c hc => List.mem_cons_of_mem _ hc)).same (same_upd nZ)).tup upd_same) (.tup hln hqs) (by omega) (by omega) (hS5.same (same_upd nZ)) (k05.trans (Kb.same (same_upd nZ)))⟩⟩⟩
    · refine iteT ⟨_, rfl, b, t1, 5, rfl, hS1, by omega, by decide, by decide, fun w1 t2 H2 w10 w11 u2 u3 hS2 k2 => ?_⟩
      have hv2 := hv1.kb hS1 k2 hbc
      have hT2 := hT1.kb k2 hS2
      have k02 := k1.trans k2
      have qs : ∀ {H' : Hp} {v' : V} {d' : PyData}, Same H2 H' → Thg cs H' v' d' → Bq (k + 1) m d' → Q v' H' := fun s h1 h2 => q _ _ t2 _ h1 h2 (by omega) (by omega) (hS2.same s) (k02.trans (Kb.same s))
      -- a list for a tuple, a tuple for a list
      refine ⟨fun σ H' => ∃ y4 y5 y6 : Option V, σ = [some (.ref b), some v, some (.int (((n + 1) : Nat) : Int)), some (.int w1), y4, y5, y6] ∧ Same H2 H', ?_, ?_⟩
      · refine ⟨_, rfl, rfl, _, rfl, ite2 (fun c => ?_) (fun c => ⟨_, _, _, rfl, Same.refl _⟩)⟩
        refine ⟨_, rfl, (by show 2 ≤ sizeLine; decide), fun p np => ?_⟩
        have sp := same_upd (o := .tup [.ty "list", .ty "tuple"]) np
        obtain ⟨tx, g1, g2⟩ := isi_row (K := K) (hv2.same sp)
        refine ⟨v, p, _, tx, _, _, rfl, upd_same, .cons (.ty _) (.cons (.ty _) .nil), g1, g2, _, rfl, ?_⟩
        cases hr' : rowOf d with
        | none => exact iteF ⟨_, _, _, rfl, sp⟩
        | some ds =>
        obtain ⟨a, xs, rfl, hX, hl⟩ := (hv2.same sp).row hr'
        obtain ⟨m', rfl, hdl, hdq⟩ := hq.row hr'
        obtain ⟨ty, j1, j2⟩ := isi_list (K := K) hX
        rcases j2 with ⟨e, j2⟩ | ⟨e, j2⟩
        · exact iteT ⟨_, rfl, _, _, ty, _, _, rfl, .ty _, j1, j2, _, rfl, iteT ⟨_, rfl, a, xs, rfl, .inl ⟨SqL.of e, fun l nl => qs (sp.trans (same_upd nl)) ((hl.same (same_upd nl)).tup upd_same) (.tup (by omega) fun x hx => hqk (hdq x hx))⟩⟩⟩
        · exact iteT ⟨_, rfl, _, _, ty, _, _, rfl, .ty _, j1, j2, _, rfl, iteF ⟨_, rfl, a, xs, rfl, .inr (.inl (.inl e)), fun l nl => qs (sp.trans (same_upd nl)) ((hl.same (same_upd nl)).lst upd_same ((hT2.same sp).off nl)) (.lst (by omega) fun x hx => hqk (hdq x hx))⟩⟩
      rintro σ3 H3 ⟨y4, y5, y6, rfl, s3⟩
      -- a part more
      refine ⟨fun σ H' => ∃ y4 y5 y6 : Option V, σ = [some (.ref b), some v, some (.int (((n + 1) : Nat) : Int)), some (.int w1), y4, y5, y6] ∧ Same H2 H', ?_, ?_⟩
      · refine ⟨_, rfl, rfl, _, rfl, ite2 (fun c => ?_) (fun c => ⟨_, _, _, rfl, s3⟩)⟩
        refine ⟨_, rfl, (by show 2 ≤ sizeLine; decide), fun p np => ?_⟩
        have sp := s3.trans (same_upd (o := .tup [.ty "list", .ty "tuple"]) np)
        obtain ⟨tx, g1, g2⟩ := isi_row (K := K) (hv2.same sp)
        refine ⟨v, p, _, tx, _, _, rfl, upd_same, .cons (.ty _) (.cons (.ty _) .nil), g1, g2, _, rfl, ?_⟩
        cases hr' : rowOf d with
        | none => exact iteF ⟨_, _, _, rfl, sp⟩
        | some ds =>
        obtain ⟨m', rfl, hdl, hdq⟩ := hq.row hr'
        refine iteT ⟨_, rfl, _, rfl, b, t2, (((n + 1) : Nat) : Int), cs, rfl, hS2.same sp, by omega, by omega, by omega, hbc, hT2.same sp, fun v1 d1 t3 H4 hv4 hq4 u4 u5 hS4 k4 => ⟨(by show 1 ≤ sizeLine; decide), fun Y nY => ?_⟩⟩
        have sY := same_upd (o := .lst [v1]) nY
        have hT4 := (hT2.same sp).kb k4 hS4
        have k24 := (Kb.same sp).trans k4
        have eY := upd_same (H := H4) (a := Y) (o := .lst [v1])
        have hq1' : Bq (k + 1) m' d1 := (hq4.up (by omega)).more (Nat.zero_le _)
        have hv4' := hv4.same sY
        have hvY := ((hv2.kb hS2 k24 hbc).same sY)
        obtain ⟨a, xs, rfl, hX, hl⟩ := hvY.row hr'
        have hxl := hl.1
        have qs4 : ∀ {H' : Hp} {v' : V} {d' : PyData}, Same H4 H' → Thg cs H' v' d' → Bq (k + 1) (m' + 1) d' → Q v' H' := fun s h1 h2 => q _ _ t3 _ h1 h2 (by omega) (by omega) (hS4.same s) ((k02.trans k24).trans (Kb.same s))
        obtain ⟨ty, j1, j2⟩ := isi_list (K := K) hX
        have hall : ∀ x ∈ ds ++ [d1], Bq (k + 1) m' x := fun x hx => by
          rcases List.mem_append.mp hx with z | z
          · exact hqk (hdq x z)
          · rw [List.mem_singleton.mp z]
            exact hq1'
        have hlen : (ds ++ [d1]).length ≤ 400 + (k + 1) := by rw [List.length_append]; exact Nat.succ_le_succ hdl
        rcases j2 with ⟨e, j2⟩ | ⟨e, j2⟩
        · refine ⟨_, rfl, _, _, ty, _, _, rfl, .ty _, j1, j2, _, rfl, iteT ⟨_, rfl, _, rfl, a, Y, xs, [v1], rfl, rfl, e, eY, (by show xs.length + 1 ≤ sizeLine; omega), fun Z nZ => ?_⟩⟩
          have sZ := same_upd (o := .lst (xs ++ [v1])) nZ
          exact qs4 (sY.trans sZ) (((hl.same sZ).append (ThgL.one (hv4'.same sZ))).lst upd_same ((hT4.same sY).off nZ)) (.lst hlen hall)
        · refine ⟨_, rfl, _, _, ty, _, _, rfl, .ty _, j1, j2, _, rfl, iteF ⟨_, rfl, _, rfl, Y, [v1], rfl, .inl ⟨SqL.of eY, fun Y2 nY2 => ?_⟩⟩⟩
          have sY2 := same_upd (o := .tup [v1]) nY2
          have sYY := sY.trans sY2
          have hv42 := hv4'.same sY2
          refine ⟨a, Y2, xs, [v1], rfl, rfl, .inl (.inl (sY2 _ _ e)), .inl (.inl upd_same), (by show xs.length + 1 ≤ sizeLine; omega), fun hx => ?_, (fun _ z => nomatch z), fun _ _ Z nZ => ?_⟩
          · subst hx
            have hds : ds = [] := List.eq_nil_of_length_eq_zero (by rw [← hxl]; rfl)
            rw [hds] at hall hlen
            exact qs4 sYY ((ThgL.one hv42).tup upd_same) (.tup hlen hall)
          · have sZ := same_upd (o := .tup (xs ++ [v1])) nZ
            exact qs4 (sYY.trans sZ) ((((hl.same sY2).same sZ).append (ThgL.one (hv42.same sZ))).tup upd_same) (.tup hlen hall)
      rintro σ4 H4 ⟨y4, y5, y6, rfl, s4⟩
      -- a part fewer
      refine ⟨fun σ H' => ∃ y4 y5 y6 : Option V, σ = [some (.ref b), some v, some (.int (((n + 1) : Nat) : Int)), some (.int w1), y4, y5, y6] ∧ Same H2 H', ?_, ?_⟩
      · refine ⟨_, rfl, rfl, _, rfl, ite2 (fun c => ?_) (fun c => ⟨_, _, _, rfl, s4⟩)⟩
        refine ⟨_, rfl, (by show 2 ≤ sizeLine; decide), fun p np => ?_⟩
        have sp := s4.trans (same_upd (o := .tup [.ty "list", .ty "tuple"]) np)
        obtain ⟨tx, g1, g2⟩ := isi_row (K := K) (hv2.same sp)
        refine ⟨v, p, _, tx, _, _, rfl, upd_same, .cons (.ty _) (.cons (.ty _) .nil), g1, g2, _, rfl, ?_⟩
        cases hr' : rowOf d with
        | none => exact iteF ⟨_, _, _, rfl, sp⟩
        | some ds =>
        obtain ⟨m', rfl, hdl, hdq⟩ := hq.row hr'
        obtain ⟨a, xs, rfl, hX, hl⟩ := (hv2.same sp).row hr'
        obtain ⟨es, hes, hin⟩ := hl.cut none (some (-1))
        have hel : es.length ≤ 400 + (k + 1) := by
          have := cutV_length xs none (some (-1))
          have h1 := hes.1
          have h2 := hl.1
          omega
        refine iteT ⟨_, rfl, _, rfl, _, rfl, ?_⟩
        rcases hX with e | e
        · exact .inl ⟨a, xs, rfl, SqL.of e, fun Z nZ => qs (sp.trans (same_upd nZ)) ((hes.same (same_upd nZ)).lst upd_same ((hT2.same sp).off nZ)) (.lst hel fun x hx => hqk (hdq x (hin x hx)))⟩
        · exact .inr ⟨a, xs, rfl, .inl (.inl e), fun _ => qs sp (hl.tup e) (.tup (by omega) fun x hx => hqk (hdq x hx)), fun _ Z nZ => qs (sp.trans (same_upd nZ)) ((hes.same (same_upd nZ)).tup upd_same) (.tup hel fun x hx => hqk (hdq x (hin x hx)))⟩
      rintro σ5 H5 ⟨y4, y5, y6, rfl, s5⟩
      -- a number, a truth
      refine ⟨fun σ H' => ∃ y4 y5 y6 : Option V, σ = [some (.ref b), some v, some (.int (((n + 1) : Nat) : Int)), some (.int w1), y4, y5, y6] ∧ Same H2 H', ?_, ?_⟩
      · refine ⟨_, rfl, rfl, _, rfl, ite2 (fun c => ?_) (fun c => ⟨_, _, _, rfl, s5⟩)⟩
        obtain ⟨tx, g1, g2⟩ := isi_int (K := K) (hv2.same s5)
        refine ⟨_, rfl, _, _, tx, _, _, rfl, .ty _, g1, g2, _, rfl, ?_⟩
        cases hi : isIntD d with
        | false => exact iteF ⟨_, _, _, rfl, s5⟩
        | true =>
        refine iteT ?_
        have hv5 := hv2.same s5
        have hT5 := hT2.same s5
        have num : ∃ i1 : Int, i1.natAbs < 10 ^ 22 + (k + 1) ∧ ∃ zt : Str, PyData.strOk zt = true ∧ ∀ (R : V → Prop), (∀ e : Bool, True → R (.bl e)) → True := ⟨0, by omega, _, strOk_lit "", fun _ _ => trivial⟩
        have fin : ∀ (e : Bool) (i1 : Int) (zt : Str) (P1 Y : Addr) (H8 : Hp), i1.natAbs < 10 ^ 22 + (k + 1) → PyData.strOk zt = true → H5 P1 = none → H8 = upd (upd H5 P1 (.lst [v])) Y (.lst [V.bl e, .int i1, .str zt, .ref P1]) → upd H5 P1 (.lst [v]) Y = none →
            ∀ (r : Int) (t3 : Int) (H9 : Hp), 0 ≤ r → r < 4 → t2 ≤ t3 → t3 ≤ t2 + 1 → Bx b H9 t3 → Kb b H8 H9 → ∃ (z : V), atI [V.bl e, .int i1, .str zt, .ref P1] r = some z ∧ H9 Y = some (.lst [V.bl e, .int i1, .str zt, .ref P1]) ∧ Q z H9 := fun e i1 zt P1 Y H8 h1 h2 nP eH nY r t3 H9 r0 r1 u4 u5 hS9 k9 => by
          subst eH
          have sP := same_upd (o := .lst [v]) nP
          have sY := same_upd (o := .lst [V.bl e, .int i1, .str zt, .ref P1]) nY
          have offY : Y ≠ b := ((hS2.same s5).same sP).off nY
          have offP : P1 ≠ b := (hS2.same s5).off nP
          obtain ⟨z, ez, hz⟩ := pick_at (xs := [V.bl e, .int i1, .str zt, .ref P1]) (n := 4) rfl r0 r1
          refine ⟨z, ez, k9.new offY, ?_⟩
          have S8 := (sP.trans sY)
          have hS8 := (hS2.same s5).same S8
          have hv9 := (hv5.same S8).kb hS8 k9 hbc
          have kk9 := (k02.trans (Kb.same (s5.trans S8))).trans k9
          have fi : ∀ {d'}, Thg cs H9 z d' → Bq (k + 1) m d' → Q z H9 := fun g1 g2 => q _ _ t3 _ g1 g2 (by omega) (by omega) hS9 kk9
          simp only [List.mem_cons, List.not_mem_nil, or_false] at hz
          rcases hz with rfl | rfl | rfl | rfl
          · exact fi (.bl _) .bl
          · exact fi (.int _) (.int h1)
          · exact fi (.str _) (.str h2)
          · obtain ⟨m', rfl⟩ : ∃ m', m = m' + 1 := ⟨m - 1, by omega⟩
            have hq0 : Bq (k + 1) m' d := by
              cases d with
              | int _ => cases hq with | int h => exact .int (by omega)
              | bool _ => exact .bl
              | none => cases hi
              | str _ => cases hi
              | list _ => cases hi
              | tuple _ => cases hi
              | dict _ => cases hi
            exact fi ((ThgL.one hv9).lst (k9.new' offP (sY _ _ upd_same)) (hT5.off nP)) (.lst (by show 1 ≤ _; omega) fun x hx => by rw [List.mem_singleton.mp hx]; exact hq0)
        clear num
        cases d with
        | int i =>
          obtain rfl := hv5.inv_int
          have hib : i.natAbs < 10 ^ 22 + k := by cases hq with | int h => exact h
          have hlog : i.natAbs.log2 < 1920 := by
            by_cases z : i.natAbs = 0
            · rw [z]; decide
            · exact Nat.lt_trans ((Nat.log2_lt (k := 130) z).mpr (Nat.lt_trans (show i.natAbs < 10 ^ 23 by omega) (by decide))) (by decide)
          refine ⟨_, rfl, _, _, .int _, .int _, shaped_num i, by rfl, _, rfl, .inl ⟨_, _, rfl, rfl, _, rfl, .inl ⟨_, rfl, hlog, _, rfl, (by show 1 ≤ sizeLine; decide), fun P1 nP => ⟨(by show 4 ≤ sizeLine; decide), fun Y nY => ?_⟩⟩⟩⟩
          refine ⟨_, rfl, b, t2, 4, rfl, ((hS2.same s5).same (same_upd nP)).same (same_upd nY), by omega, by decide, by decide, fun r t3 H9 r0 r1 u4 u5 hS9 k9 => ?_⟩
          obtain ⟨z, ez, eY, qz⟩ := fin _ (i + 1) _ P1 Y _ (by omega) (strOk_lit _) nP rfl nY r t3 H9 r0 r1 u4 u5 hS9 k9
          exact ⟨Y, _, _, z, rfl, rfl, SqL.of eY, ez, qz⟩
        | bool bb =>
          obtain rfl := hv5.inv_bl
          refine ⟨_, rfl, _, _, .bl _, .int _, shaped_bl bb, by rfl, _, rfl, .inr ⟨_, _, rfl, rfl, _, rfl, .inr ⟨_, rfl, fun zt hzt => ⟨_, rfl, (by show 1 ≤ sizeLine; decide), fun P1 nP => ⟨(by show 4 ≤ sizeLine; decide), fun Y nY => ?_⟩⟩⟩⟩⟩
          refine ⟨_, rfl, b, t2, 4, rfl, ((hS2.same s5).same (same_upd nP)).same (same_upd nY), by omega, by decide, by decide, fun r t3 H9 r0 r1 u4 u5 hS9 k9 => ?_⟩
          obtain ⟨z, ez, eY, qz⟩ := fin _ ((if bb = true then (1 : Int) else 0) + 1) _ P1 Y _ (by split <;> omega) hzt nP rfl nY r t3 H9 r0 r1 u4 u5 hS9 k9
          exact ⟨Y, _, _, z, rfl, rfl, SqL.of eY, ez, qz⟩
        | none => cases hi
        | str _ => cases hi
        | list _ => cases hi
        | tuple _ => cases hi
        | dict _ => cases hi
      rintro σ6 H6 ⟨y4, y5, y6, rfl, s6⟩
      exact ⟨_, rfl, _, rfl, b, t2, (((n + 1) : Nat) : Int), cs, rfl, hS2.same s6, by omega, by omega, by omega, hbc, hT2.same s6, fun v1 d1 t3 H7 hv7 hq7 u4 u5 hS7 k7 => q _ _ t3 _ hv7 ((hq7.up (by omega)).more (Nat.zero_le _)) (by omega) (by omega) hS7 (k02.trans ((Kb.same s6).trans k7))⟩
end

/-! ### the law of k36 -/
theorem _root_.TK.GX.TQ.kb {Ms : GX.Mq} {Xs : List Addr} {H H' : Hp} {b : Addr} {t : Int} (h : GX.TQ Ms Xs H) (S : Bx b H t) (k : Kb b H H') : GX.TQ Ms Xs H' := by
  obtain ⟨n0, n1, eb, _⟩ := S.at_
  exact h.keep (fun c ps hb => k _ _ (ne_of hb eb (fun z => nomatch z)) hb)
    (fun c c' P hb => k _ _ (ne_of hb eb (fun z => by unfold GX.CodeG at z; cases z)) hb)
    (fun c c' q hb => k _ _ (ne_of hb eb (fun z => by unfold LamX.CodeO at z; cases z)) hb)
theorem Bq.tripL {rows : List Trip3} (h : ∀ r ∈ rows, Trip3Ok 300 300 r) (hl : rows.length ≤ 64) : Bq 0 3 (.list (rows.map trip3D)) := by
  refine .lst (by rw [List.length_map]; omega) fun d hd => ?_
  obtain ⟨⟨p, nb, ng⟩, hr, rfl⟩ := List.mem_map.mp hd
  obtain ⟨h1, h2, h3, h4, h5⟩ := h _ hr
  have hi : ∀ ns : List Int, ns.length ≤ 300 → (∀ k ∈ ns, 0 ≤ k ∧ k < 300) → Bq 0 1 (.list (ns.map PyData.int)) := fun ns h6 h7 => .lst (by rw [List.length_map]; omega) fun d hd => by
    obtain ⟨k, hk, rfl⟩ := List.mem_map.mp hd
    have := h7 k hk
    exact .int (by omega)
  refine .tup (by show 3 ≤ 400; decide) fun d hd => ?_
  simp only [List.mem_cons, List.not_mem_nil, or_false] at hd
  rcases hd with rfl | rfl | rfl
  · obtain ⟨l, e, _, o⟩ := h1
    have e : p = SX.S l := e
    rw [e]
    exact .str (strOk_S o)
  · exact (hi nb h2 h4).up (by omega)
  · exact (hi ng h3 h5).up (by omega)
def trip3T (r : Trip3) : PyData := .tuple [.str r.1, .tuple (r.2.1.map PyData.int), .tuple (r.2.2.map PyData.int)]
theorem Bq.tripT {rows : List Trip3} (h : ∀ r ∈ rows, Trip3Ok 300 300 r) (hl : rows.length ≤ 64) : Bq 0 3 (.tuple (rows.map trip3T)) := by
  refine .tup (by rw [List.length_map]; omega) fun d hd => ?_
  obtain ⟨⟨p, nb, ng⟩, hr, rfl⟩ := List.mem_map.mp hd
  obtain ⟨h1, h2, h3, h4, h5⟩ := h _ hr
  have hi : ∀ ns : List Int, ns.length ≤ 300 → (∀ k ∈ ns, 0 ≤ k ∧ k < 300) → Bq 0 1 (.tuple (ns.map PyData.int)) := fun ns h6 h7 => .tup (by rw [List.length_map]; omega) fun d hd => by
    obtain ⟨k, hk, rfl⟩ := List.mem_map.mp hd
    have := h7 k hk
    exact .int (by omega)
  refine .tup (by show 3 ≤ 400; decide) fun d hd => ?_
  simp only [List.mem_cons, List.not_mem_nil, or_false] at hd
  rcases hd with rfl | rfl | rfl
  · obtain ⟨l, e, _, o⟩ := h1
    have e : p = SX.S l := e
    rw [e]
    exact .str (strOk_S o)
  · exact (hi nb h2 h4).up (by omega)
  · exact (hi ng h3 h5).up (by omega)
theorem Bq.shN {k n : Nat} {d : PyData} (h : Bq k n d) (hn : n ≤ 20) : ShN d := fun ds e t ht es e2 x hx => by
  obtain ⟨m, rfl, _, h1⟩ := h.row e
  obtain ⟨m2, rfl, _, h2⟩ := (h1 t ht).row e2
  exact (h2 x hx).shaped (by omega)
theorem Bq.lens {k n : Nat} {d : PyData} (h : Bq k n d) (hk : k ≤ 100) : ∀ ds, rowOf d = some ds → ∀ t ∈ ds, ∀ es, rowOf t = some es → ∀ e ∈ es, ∀ fs, rowOf e = some fs → fs.length ≤ 3000 := fun ds e t ht es e2 x hx fs e3 => by
  obtain ⟨m, rfl, _, h1⟩ := h.row e
  obtain ⟨m2, rfl, _, h2⟩ := (h1 t ht).row e2
  obtain ⟨m3, rfl, h3, _⟩ := (h2 x hx).row e3
  omega
theorem Thg.trip {cs : List Addr} {H : Hp} {v : V} {r : Trip3} (h : Thg cs H v (trip3D r)) : ∃ T l1 l2, v = .ref T ∧ H T = some (.tup [.str r.1, .ref l1, .ref l2]) ∧ H l1 = some (.lst (r.2.1.map V.int)) ∧ H l2 = some (.lst (r.2.2.map V.int)) := by
  obtain ⟨T, xs, rfl, e, h1⟩ := h.tuple
  obtain ⟨x, ys, rfl, h2, h3⟩ := h1.inv
  obtain ⟨y, zs, rfl, h4, h5⟩ := h3.inv
  obtain ⟨z, ws, rfl, h6, h7⟩ := h5.inv
  obtain ⟨l1, u1, rfl, e1, _, g1⟩ := h4.list
  obtain ⟨l2, u2, rfl, e2, _, g2⟩ := h6.list
  rw [h7.inv0, h2.inv_str] at e
  rw [g1.ints] at e1
  rw [g2.ints] at e2
  exact ⟨T, l1, l2, rfl, e, e1, e2⟩
def spLaw (K : PySem.W.Frag) (Ms : GX.Mq) (Xs : List Addr) (Pf Pn Pr Pb Pt Pz : Addr) : Sp := fun vs H Q _ => ∃ (a : Addr) (ns : List Int), vs = [.ref a] ∧ SqL K H a (ns.map V.int) ∧ ns.length ≤ 63 ∧ GX.TQ Ms Xs H ∧ Tabs5 Ms Pf Pn Pr Pb Pt ∧ Pz ∈ Ms ∧ ∀ H', Q (.bl true) H'
abbrev sLaw : Stmt := topS 46
theorem scLaw : FnScope ["_law_script", "_law_cells_here", "_law_k", "_law_box_here", "_law_batches_here", "_law_tests_here", "_law_own_here", "_law_things", "_law_turn", "_law_thing", "_law_found", "_law_row"] ["_law_script"] (defScope sLaw) := ⟨rfl, rfl, rfl, by decide +kernel, rfl, by decide +kernel, by decide +kernel⟩
section
variable {K : PySem.W.Frag} {mg : Str → Option Value} {P : Program} {w : World} {base : Heap} {Ms : GX.Mq} {Xs : List Addr} {Pf Pn Pr Pb Pt Pz : Addr}
theorem ok_Law {f : Addr} {fd : FuncData} (F : Fun K "law" "law" sLaw f fd) (C__law_cells : Cal P w K mg base 1 "_law_cells" ["_law_script", "_law_many"] (spCells K)) (C__law_box : Cal P w K mg base 1 "_law_box" ["_law_script", "_law_k"] spBox) (C__law_clash : Cal P w K mg base 4 "_law_clash" ["_law_box_here", "_law_most"] spClash) (C__law_own : Cal P w K mg base 2 "_law_own" ["_law_batches_here", "_law_tests_here"] (spOwn K)) (C__law_nested : Cal P w K mg base 2 "_law_nested" ["_law_box_here", "_law_deep"] spNested) (C__law_put : Cal P w K mg base 8 "_law_put" ["_law_box_here", "_law_thing", "_law_deep"] ((spPut K 5))) (C__law_take : Cal P w K mg base 1 "_law_take" ["_law_box_here", "_law_many"] spTakeB) (C_shows_none : Cal P w K mg base 13 "shows_none" ["batches", "tests", "told"] (spShowsN K Ms Xs Pf Pn Pr Pb Pt Pz)) (C__law_is_shown : Cal P w K mg base 3 "_law_is_shown" ["_law_batches_here", "_law_tests_here", "_law_told"] (spLShown K)) (m_len : mg "len" = none) (m_range : mg "range" = none) (m_tuple : mg "tuple" = none) (m_isinstance : mg "isinstance" = none) (m_bool : mg "bool" = none) : FnOk P w K mg base CX0 14 f fd ["_law_script"] (spLaw K Ms Xs Pf Pn Pr Pb Pt Pz) := by
  refine F.ok scLaw (fun vs H Q E h => ?_) (fun cdv A outer s H vs Q E hr h => ?_)
  · obtain ⟨a, ns, rfl, _⟩ := h
    rfl
  · obtain ⟨a, ns, rfl, hS, hl, hT, hP5, hPz, q⟩ := h
    refine ⟨_, pss_cons (ps_set (i := 1) scLaw.nd rfl (.inl rfl) (pe_own C__law_cells (hr.mono (show 1 ≤ 13 by decide)) (by rfl) (pa_cons (pv 0) (pa_cons pe_int pa_nil))))
      (pss_cons (ps_for PassesOwn.never rfl (pi_range1 rfl m_range (pa_cons (pe_callB call_len_seq (by rfl) m_len PySem.boot_len (pa_cons (pv 1) pa_nil)) pa_nil)) (pg_name (i := 2) scLaw.nd rfl (.inl rfl))
        (pss_cons (ps_set (i := 3) scLaw.nd rfl (.inl rfl) (pe_own C__law_box (hr.mono (show 1 ≤ 13 by decide)) (by rfl) (pa_cons (pv 1) (pa_cons (pv 2) pa_nil))))
        (pss_cons (ps_asg (pe_own C__law_clash (hr.mono (show 4 ≤ 13 by decide)) (by rfl) (pa_cons (pv 3) (pa_cons pe_int pa_nil))) (pg_tup rfl (pgs_cons (pg_name (i := 4) scLaw.nd rfl (.inl rfl)) (pgs_cons (pg_name (i := 5) scLaw.nd rfl (.inl rfl)) pgs_nil))))
        (pss_cons (ps_set (i := 6) scLaw.nd rfl (.inl rfl) (pe_own C__law_own (hr.mono (show 2 ≤ 13 by decide)) (by rfl) (pa_cons (pv 4) (pa_cons (pv 5) pa_nil))))
        (pss_cons (ps_set (i := 7) scLaw.nd rfl (.inl rfl) (pe_lst (pa_cons (pv 6) (pa_cons (pe_callTy call_tuple_of (by rfl) m_tuple (by decide +kernel) (pa_cons (pe_lc (own := [("_law_row", 11)]) (g := (gName 11)) (tt := tYes) (te := (tTup (tCons (tOp (rIxT K) (tVar 11) (tC (.int 0))) (tCons (tCB (fun xs H Q => ∃ p ys, xs = [.ref p] ∧ ((SqL K H p ys ∧ ∀ l, H l = none → Q (.ref l) (upd H l (.tup ys))) ∨ (SqT K H p ys ∧ Q (.ref p) H))) (tCons (tOp (rIxT K) (tVar 11) (tC (.int 1))) tNil)) (tCons (tCB (fun xs H Q => ∃ p ys, xs = [.ref p] ∧ ((SqL K H p ys ∧ ∀ l, H l = none → Q (.ref l) (upd H l (.tup ys))) ∨ (SqT K H p ys ∧ Q (.ref p) H))) (tCons (tOp (rIxT K) (tVar 11) (tC (.int 2))) tNil)) tNil))))) rfl scLaw.nd (pi_list (pv 6)) (blkOk_by (own := [("_law_row", 11)]) (N := ["_law_script", "_law_cells_here", "_law_k", "_law_box_here", "_law_batches_here", "_law_tests_here", "_law_own_here", "_law_things", "_law_turn", "_law_thing", "_law_found", "_law_row"]) (sc := defScope sLaw) (by decide +kernel)) (fun _ _ _ _ _ => (pg_name (i := 11) scLaw.nd rfl (.inl rfl))) (fun _ _ _ _ _ => pts_nil) (fun _ _ _ _ _ => (pe_tup (pa_cons (pe_ix ix_tup (pv 11) pe_int (fun _ _ => rfl)) (pa_cons (pe_callTy call_tuple_of (by rfl) m_tuple (by decide +kernel) (pa_cons (pe_ix ix_tup (pv 11) pe_int (fun _ _ => rfl)) pa_nil)) (pa_cons (pe_callTy call_tuple_of (by rfl) m_tuple (by decide +kernel) (pa_cons (pe_ix ix_tup (pv 11) pe_int (fun _ _ => rfl)) pa_nil)) pa_nil)))))) pa_nil)) (pa_cons (pe_own C__law_nested (hr.mono (show 2 ≤ 13 by decide)) (by rfl) (pa_cons (pv 3) (pa_cons pe_int pa_nil))) pa_nil)))))
        (pss_cons (ps_for PassesOwn.never rfl (pi_range1 rfl m_range (pa_cons pe_int pa_nil)) (pg_name (i := 8) scLaw.nd rfl (.inl rfl))
          (pss_one (ps_expr (pe_bm PySem.F.plainAttrs_list PySem.F.slot_list_append PySem.F.type_list_append mt_append (pv 7) (pa_cons (pe_own C__law_put (hr.mono (show 8 ≤ 13 by decide)) (by rfl) (pa_cons (pv 3) (pa_cons (pe_ifExp (pt_cmpR op_gt (pv 8) pe_int (nomark _)) (pe_ix ix_list (pv 7) (pe_own C__law_take (hr.mono (show 1 ≤ 13 by decide)) (by rfl) (pa_cons (pv 3) (pa_cons (pe_callB call_len_seq (by rfl) m_len PySem.boot_len (pa_cons (pv 7) pa_nil)) pa_nil))) (fun _ _ => rfl)) (pv 6)) (pa_cons pe_int pa_nil)))) pa_nil)))))
        (pss_one (ps_for PassesOwn.never rfl (pi_list (pv 7)) (pg_name (i := 9) scLaw.nd rfl (.inl rfl))
          (pss_cons (ps_set (i := 10) scLaw.nd rfl (.inl rfl) (pe_own C_shows_none hr (by rfl) (pa_cons (pv 4) (pa_cons (pv 5) (pa_cons (pv 9) pa_nil)))))
          (pss_one (ps_if (PW.pt (pw_or (pt_not (pt_val (pe_callB call_isi (by rfl) m_isinstance (by decide +kernel) (pa_cons (pv 10) (pa_cons (pe_bltn (v := .ty "bool") (by rfl) m_bool (by decide +kernel) rfl) pa_nil))))) (pw_or1 (pt_cmpR op_ne (pv 10) (pe_own C__law_is_shown (hr.mono (show 3 ≤ 13 by decide)) (by rfl) (pa_cons (pv 4) (pa_cons (pv 5) (pa_cons (pv 9) pa_nil)))) (nomark _))))) (pss_one (ps_ret pe_bl))
            pss_nil)))))))))))
      (pss_one (ps_ret pe_bl))), ?_⟩
    refine ⟨_, rfl, a, ns, 2, rfl, hS, hl, by decide, by decide, fun l cs H1 s1 nl el hcne hcl => ?_⟩
    refine ⟨_, rfl, l, _, rfl, .inl (SqL.of el), ((cs.map V.int).length : Int), rfl, by rw [List.length_map]; omega, by rw [List.length_map]; omega, for_range (n := (((cs.map V.int).length : Nat) : Int).toNat) (fun i σ Hx => ∃ (y2 y3 y4 y5 y6 y7 y8 y9 y10 y11 : Option V), σ = [some (.ref a), some (.ref l), y2, y3, y4, y5, y6, y7, y8, y9, y10, y11] ∧ Hx l = some (.lst (cs.map V.int)) ∧ GX.TQ Ms Xs Hx) ⟨_, _, _, _, _, _, _, _, _, _, rfl, el, hT.same s1⟩ (fun i σ Hx hi hP => ?_) (fun σ Hx hP => ?_)⟩
    rotate_left
    · exact q Hx
    obtain ⟨y2, y3, y4, y5, y6, y7, y8, y9, y10, y11, rfl, elx, tx⟩ := hP
    have hi' : i < cs.length := by rw [List.length_map] at hi; omega
    refine ⟨_, rfl, _, rfl, l, cs, 0 + (i : Int), rfl, elx, by omega, by omega, fun b H2 s2 nb hB => ?_⟩
    have elb : l ≠ b := fun z => by rw [z] at elx; rw [elx] at nb; cases nb
    refine ⟨_, rfl, b, 0, 10, rfl, hB, by decide, by decide, by decide, fun T A L us ys bs ts t3 H3 eT eA hAb hu eL hLb hy hC h8 hne hbad u0 u1 hS3 k3 => ?_⟩
    refine ⟨T, _, rfl, .inl (.inl eT), rfl, _, _, rfl, _, _, rfl, rfl, ?_⟩
    have el3 := k3 _ _ elb (s2 _ _ elx)
    have t3q := (tx.same s2).kb hB k3
    -- the law's own
    refine ⟨_, rfl, _, rfl, A, L, us, ys, bs, ts, [b], rfl, eA, hu, eL, hy, hC, h8, hbad, fun R vs' rows H4 nR s4 eR hrows hrl hro => ?_⟩
    have hS4 := hS3.same s4
    have offR := hS3.off nR
    have hbne : ∀ c ∈ [b], H3 c ≠ none := fun c hc => by rw [List.mem_singleton.mp hc]; exact hS3.ne
    have hr4 := hrows [b] hbne
    have hR4 : Thg [b] H4 (.ref R) (.list (rows.map trip3D)) := hr4.lst eR (by simpa using offR)
    have hvl : vs'.length = rows.length := by rw [hr4.1, List.length_map]
    refine ⟨_, rfl, _, rfl, R, rfl, ⟨_, SqL.of eR⟩, fun D nD => lc_thg (rows.map trip3T) (walk_list (xs := vs')) [b] nD (by rw [List.length_map, hvl]) (by omega) (fun H' s => SqL.of (s _ _ eR)) (fun k x d H5 H5' Kt Kn hd s5 hyy kt => ?_) (fun H5 vs5 s5 eD h5 => ?_)⟩
    · obtain ⟨rfl, hx⟩ := hyy
      obtain ⟨r, er, hr⟩ := hr4.atM hx
      rw [List.getElem?_map, er] at hd
      cases hd
      obtain ⟨T5, l1, l2, rfl, e5, e1, e2⟩ := (hr.same s5).trip
      refine ⟨rfl, _, rfl, T5, _, 0, _, rfl, rfl, .inl (.inl e5), atI_nat (j := 0) rfl, _, rfl, T5, _, 1, _, rfl, rfl, .inl (.inl e5), atI_nat (j := 1) rfl, l1, _, rfl, .inl ⟨SqL.of e1, fun z1 nz1 => ?_⟩⟩
      have sz1 := same_upd (o := .tup (r.2.1.map V.int)) nz1
      refine ⟨_, rfl, T5, _, 2, _, rfl, rfl, .inl (.inl (sz1 _ _ e5)), atI_nat (j := 2) rfl, l2, _, rfl, .inl ⟨SqL.of (sz1 _ _ e2), fun z2 nz2 => ⟨(by show 3 ≤ sizeLine; decide), fun z3 nz3 => ?_⟩⟩⟩
      have sz2 := same_upd (o := .tup (r.2.2.map V.int)) nz2
      have sz3 := same_upd (o := .tup [.str r.1, .ref z1, .ref z2]) nz3
      exact kt _ _ ((sz1.trans sz2).trans sz3) (ThgL.tup (.cons (.str _) (.cons (thg_ints.tup (sz3 _ _ (sz2 _ _ upd_same))) (.one (thg_ints.tup (sz3 _ _ upd_same))))) upd_same)
    refine ⟨D, vs5, rfl, .inl ⟨SqL.of eD, fun Z nZ => ?_⟩⟩
    have sZ := same_upd (o := .tup vs5) nZ
    have hZ : Thg [b] (upd H5 Z (.tup vs5)) (.ref Z) (.tuple (rows.map trip3T)) := ((h5.less (by simp)).same sZ).tup upd_same
    have s56 := s5.trans sZ
    have hS6 := hS4.same s56
    have hTk : Tk [b] (upd H5 Z (.tup vs5)) := fun c hc => by rw [List.mem_singleton.mp hc]; exact hS6.ne
    refine ⟨_, rfl, b, t3, 7, [b], rfl, hS6, by omega, by decide, by decide, List.mem_singleton.mpr rfl, hTk, fun v1 d1 t7 H7 hv1 hq1 u4 u5 hS7 k7 => ⟨(by show 3 ≤ sizeLine; decide), fun TL nTL => ?_⟩⟩
    have sTL := same_upd (o := .lst [V.ref R, .ref Z, v1]) nTL
    have offT := hS7.off nTL
    have k37 : Kb b H3 H7 := (Kb.same (s4.trans s56)).trans k7
    have hq1 : Bq 0 8 d1 := hq1
    have hl3 := Bq.tripL hro (by omega)
    have ht3 := Bq.tripT hro (by omega)
    -- all turns
    have eTL := upd_same (H := H7) (a := TL) (o := .lst [V.ref R, .ref Z, v1])
    have hv0 : ThgL [TL, b] (upd H7 TL (.lst [V.ref R, .ref Z, v1])) [V.ref R, .ref Z, v1] [.list (rows.map trip3D), .tuple (rows.map trip3T), d1] := ((ThgL.cons ((hR4.same s56).kb hS6 k7 (by simp)) (.cons (hZ.kb hS6 k7 (by simp)) (.one hv1))).more nTL).same sTL
    have hu8 : ThgL [TL, b] (upd H7 TL (.lst [V.ref R, .ref Z, v1])) us (bs.map batD) := ((hu.kb hS3 k37 (by simp)).more nTL).same sTL
    have hy8 : ThgL [TL, b] (upd H7 TL (.lst [V.ref R, .ref Z, v1])) ys (ts.map tstD) := ((hy.kb hS3 k37 (by simp)).more nTL).same sTL
    have eA8 := sTL _ _ (k37 _ _ hAb eA)
    have eL8 := sTL _ _ (k37 _ _ hLb eL)
    have el8 := sTL _ _ (k37 _ _ elb el3)
    have t8q := ((((t3q.same s4).same s56).kb hS6 k7).same sTL)
    have hS8 := hS7.same sTL
    have nof : ∀ {c : Addr} {o : HO}, H7 c = some o → c ≠ TL := fun e z => by rw [z, nTL] at e; cases e
    have nAT := nof (k37 _ _ hAb eA)
    have nLT := nof (k37 _ _ hLb eL)
    have nlT := nof (k37 _ _ elb el3)
    refine ⟨12, rfl, by decide, by decide, for_range (n := 12) (fun j σ Hx => ∃ (t' : Int) (vs : List V) (ds : List PyData) (y8 y9 y10 y11 : Option V), σ = [some (.ref a), some (.ref l), some (.int (0 + (i : Int))), some (.ref b), some (.ref A), some (.ref L), some (.ref R), some (.ref TL), y8, y9, y10, y11] ∧ Hx TL = some (.lst vs) ∧ ThgL [TL, b] Hx vs ds ∧ vs.length = 3 + j ∧ (∀ d ∈ ds, Bq j 8 d) ∧ Thg [TL, b] Hx (.ref R) (.list (rows.map trip3D)) ∧ ThgL [TL, b] Hx us (bs.map batD) ∧ ThgL [TL, b] Hx ys (ts.map tstD) ∧ Hx A = some (.lst us) ∧ Hx L = some (.lst ys) ∧ Hx l = some (.lst (cs.map V.int)) ∧ GX.TQ Ms Xs Hx ∧ t7 ≤ t' ∧ t' ≤ t7 + 200 * (j : Int) ∧ Bx b Hx t') ⟨t7, _, _, _, _, _, _, rfl, eTL, hv0, rfl, (fun d hd => by
        simp only [List.mem_cons, List.not_mem_nil, or_false] at hd
        rcases hd with rfl | rfl | rfl
        · exact hl3.up (by omega)
        · exact ht3.up (by omega)
        · exact hq1), hv0.2 0 _ _ rfl rfl, hu8, hy8, eA8, eL8, el8, t8q, by omega, by omega, hS8⟩ (fun j σ Hx hj hP => ?_) (fun σ Hx hP => ?_)⟩
    · obtain ⟨t', vs, ds, y8, y9, y10, y11, rfl, eTx, hvs, hvn, hbq, hRx, hux, hyx, eAx, eLx, elx', tqx, v0, v1', hSx⟩ := hP
      have hj12 : (j : Int) < 12 := by omega
      have hTx : Tk [TL, b] Hx := fun c hc => by
        rcases List.mem_cons.mp hc with rfl | hc
        · rw [eTx]; exact fun z => nomatch z
        · rw [List.mem_singleton.mp hc]; exact hSx.ne
      refine ⟨_, rfl, .inl ⟨rfl, _, SqL.of eTx⟩, _, rfl, ?_⟩
      have post : ∀ (v' : V) (d' : PyData) (t5 t6 : Int) (H6 : Hp), Thg [TL, b] H6 v' d' → Bq (j + 1) 8 d' → t' ≤ t5 → t5 ≤ t' + 1 → t5 ≤ t6 → t6 ≤ t5 + 180 → Bx b H6 t6 → Kb b Hx H6 → H6 TL = some (.lst vs) ∧ (upd H6 TL (.lst (vs ++ [v'])) TL = some (.lst (vs ++ [v'])) ∧ ThgL [TL, b] (upd H6 TL (.lst (vs ++ [v']))) (vs ++ [v']) (ds ++ [d']) ∧ (vs ++ [v']).length = 3 + (j + 1) ∧ (∀ d ∈ ds ++ [d'], Bq (j + 1) 8 d) ∧ Thg [TL, b] (upd H6 TL (.lst (vs ++ [v']))) (.ref R) (.list (rows.map trip3D)) ∧ ThgL [TL, b] (upd H6 TL (.lst (vs ++ [v']))) us (bs.map batD) ∧ ThgL [TL, b] (upd H6 TL (.lst (vs ++ [v']))) ys (ts.map tstD) ∧ upd H6 TL (.lst (vs ++ [v'])) A = some (.lst us) ∧ upd H6 TL (.lst (vs ++ [v'])) L = some (.lst ys) ∧ upd H6 TL (.lst (vs ++ [v'])) l = some (.lst (cs.map V.int)) ∧ GX.TQ Ms Xs (upd H6 TL (.lst (vs ++ [v']))) ∧ t7 ≤ t6 ∧ t6 ≤ t7 + 200 * ((j + 1 : Nat) : Int) ∧ Bx b (upd H6 TL (.lst (vs ++ [v']))) t6) := fun v' d' t5 t6 H6 g1 g2 h1 h2 h3 h4 g5 g6 => by
        have e6 := g6 _ _ offT eTx
        have mT : TL ∈ [TL, b] := by simp
        have mb : b ∈ [TL, b] := by simp
        refine ⟨e6, upd_same, ((hvs.kb hSx g6 mb).upd e6 mT).append (ThgL.one (g1.upd e6 mT)), by rw [List.length_append, hvn]; rfl, fun d hd => ?_, (hRx.kb hSx g6 mb).upd e6 mT, (hux.kb hSx g6 mb).upd e6 mT, (hyx.kb hSx g6 mb).upd e6 mT, ?_, ?_, ?_, (tqx.kb hSx g6).upd e6, by omega, by omega, g5.upd offT⟩
        · rcases List.mem_append.mp hd with z | z
          · exact (hbq d z).more (Nat.le_succ _)
          · rw [List.mem_singleton.mp z]; exact g2
        · rw [upd_ne nAT]; exact g6 _ _ hAb eAx
        · rw [upd_ne nLT]; exact g6 _ _ hLb eLx
        · rw [upd_ne nlT]; exact g6 _ _ elb elx'
      refine ⟨_, rfl, _, _, rfl, rfl, _, rfl, ite2 (fun c => ?_) (fun c => ?_)⟩
      · refine ⟨_, rfl, _, rfl, _, rfl, TL, vs, rfl, .inl (SqL.of eTx), b, t', _, rfl, hSx, by omega, by omega, by omega, fun r t5 H5 r0 r1 u8 u9 hS5 k5 => ?_⟩
        obtain ⟨m, rfl⟩ := Int.eq_ofNat_of_zero_le r0
        have lm : m < vs.length := by omega
        have ev : vs[m]? = some vs[m] := List.getElem?_eq_getElem lm
        have lds := hvs.1
        have ed : ds[m]? = some ds[m] := List.getElem?_eq_getElem (by omega)
        have hv5 := (hvs.kb hSx k5 (by simp)).2 m _ _ ev ed
        refine ⟨TL, vs, (m : Int), vs[m], rfl, rfl, SqL.of (k5 _ _ offT eTx), atI_nat ev, b, t5, [TL, b], vs[m], ds[m], 8, j, rfl, hS5, by omega, by simp, hTx.kb k5 hS5, hv5, hbq _ (List.getElem_mem (by omega)), by omega, by omega, by omega, by omega, fun v' d' t6 H6 g1 g2 g3 g4 g5 g6 => ?_⟩
        obtain ⟨e6, f⟩ := post v' d' t5 t6 H6 g1 g2 u8 u9 g3 (by omega) g5 (k5.trans g6)
        exact ⟨TL, _, _, rfl, rfl, e6, small1000 (by omega), t6, _, _, _, _, _, _, rfl, f⟩
      · refine ⟨_, rfl, b, t', [TL, b], .ref R, _, 8, j, rfl, hSx, by omega, by simp, hTx, hRx, (hl3.up (by omega)).more (Nat.zero_le _), by omega, by omega, by omega, by omega, fun v' d' t6 H6 g1 g2 g3 g4 g5 g6 => ?_⟩
        obtain ⟨e6, f⟩ := post v' d' t' t6 H6 g1 g2 (Int.le_refl _) (by omega) g3 (by omega) g5 g6
        exact ⟨TL, _, _, rfl, rfl, e6, small1000 (by omega), t6, _, _, _, _, _, _, rfl, f⟩
    · obtain ⟨t', vs, ds, y8, y9, y10, y11, rfl, eTx, hvs, hvn, hbq, hRx, hux, hyx, eAx, eLx, elx', tqx, v0, v1', hSx⟩ := hP
      refine ⟨_, rfl, TL, rfl, ⟨_, SqL.of eTx⟩, for_list (xs := vs) (fun j σ Hy => ∃ (y8 y9 y10 y11 : Option V), σ = [some (.ref a), some (.ref l), some (.int (0 + (i : Int))), some (.ref b), some (.ref A), some (.ref L), some (.ref R), some (.ref TL), y8, y9, y10, y11] ∧ GX.NoTab Hx Hy ∧ GX.TQ Ms Xs Hy) ⟨_, _, _, _, rfl, GX.NoTab.refl _, tqx⟩ (fun j σ Hy _ hP => ?_) (fun j x σ Hy hx hP => ?_) (fun σ Hy hP => ?_)⟩
      · obtain ⟨_, _, _, _, rfl, n, _⟩ := hP
        exact SqL.of (n.lst eTx)
      · obtain ⟨y8, y9, y10, y11, rfl, n, tqy⟩ := hP
        obtain ⟨d, ed, hd⟩ := hvs.at hx
        have hq := hbq d (List.mem_of_getElem? ed)
        have hd0 : Thg [] Hy x d := (hd.less (by simp)).noTab n
        have huy : ThgL [] Hy us (bs.map batD) := (hux.less (by simp)).noTab n
        have hyy : ThgL [] Hy ys (ts.map tstD) := (hyx.less (by simp)).noTab n
        refine ⟨_, rfl, _, rfl, _, rfl, .ref A, x, L, d, ys, bs, ts, [], rfl, ⟨⟨A, us, _, rfl, .inl (n.lst eAx), huy, batsR bs⟩, L, ys, rfl, .inl (n.lst eLx), hyy⟩, hC, .inl (n.lst eLx), hyy, hd0, hq.shN (by omega), tqy, hP5, hPz, fun ps H9 n9 t9 hps => ?_⟩
        refine ⟨_, rfl, _, _, _, _, true, rfl, .ty _, .base (.bl _), kit_ty (by change kitB _ _ = some true; decide +kernel), _, rfl, iteF ⟨_, rfl, _, rfl, _, rfl, _, rfl, A, L, x, d, us, ys, bs, ts, [], [], rfl, n9.lst (n.lst eAx), huy.noTab n9, n9.lst (n.lst eLx), hyy.noTab n9, hC, h8, hd0.noTab n9, hq.lens (by omega), fun ps2 H10 s10 hps2 => ?_⟩⟩
        obtain rfl := hps.one hps2 fun _ => Iff.rfl
        refine ⟨rfl, _, rfl, ?_⟩
        rw [decide_eq_true rfl]
        exact iteF ⟨_, _, _, _, rfl, (n.trans n9).trans (NoTab.same s10), t9.same s10⟩
      · obtain ⟨y8, y9, y10, y11, rfl, n, tqy⟩ := hP
        exact ⟨_, _, _, _, _, _, _, _, _, _, rfl, n.lst elx', tqy⟩
end

/-! ### the end: what the top has left, the tables of code objects among it -/
/-- each def of the text has a code object with an empty table -/
def Tabs (q : Program) (mg : Str → Option Value) (h : Heap) : Prop := ∀ dr ∈ recsOf q, ∃ (f : Addr) (o : Obj) (fd : FuncData) (c P : Addr), mg dr.name = some (.ref f) ∧ h.get? f = some o ∧ o.data = .func fd ∧ fd.code = .ref c ∧ PySem.W.CodeHd h c P ∧ h.get? P = some (PySem.W.tabObj #[])
theorem tab_in {q : Program} {mg : Str → Option Value} {h : Heap} {K : PySem.W.Frag} {y : Str} {f c P : Addr} {oc e : Value} {od dd : Option Addr} {fd : FuncData} {osl sl : Array (Option Value)} {vs : Array Value} (TT : Tabs q mg h) (X : K.In h) (rec : ((recsOf q).any fun r => r.name == y) = true)
    (g : mg y = some (.ref f)) (lf : K.lookup f = some ⟨oc, od, .func fd, osl⟩) (hc : fd.code = .ref c) (lc : K.lookup c = some ⟨e, dd, .fields vs, sl⟩) (v : vs[11]? = some (.ref P)) : PySem.W.CodeHd h c P ∧ h.get? P = some (PySem.W.tabObj #[]) := by
  obtain ⟨dr, mem, nm⟩ := List.any_eq_true.mp rec
  obtain ⟨f', o', fd', c', P', t1, t2, t3, t4, t5, t6⟩ := TT dr mem
  have ef : f' = f := by
    rw [beq_iff_eq.mp nm, g] at t1
    exact (Value.ref.inj (Option.some.inj t1)).symm
  rw [ef, X _ _ lf] at t2
  rw [← Option.some.inj t2] at t3
  have efd : fd = fd' := Data.func.inj t3
  rw [← efd, hc] at t4
  have ec : c = c' := Value.ref.inj t4
  rw [← ec] at t5
  have t5' := t5
  obtain ⟨oc', us, _, _, _, _, _, _, _, u1, _, u3, u4, _⟩ := t5'
  rw [X _ _ lc] at u1
  rw [← Option.some.inj u1] at u3
  have eu : vs = us := Data.fields.inj u3
  rw [← eu, v] at u4
  have eP : P = P' := Value.ref.inj (Option.some.inj u4)
  rw [eP]
  exact ⟨t5, t6⟩
theorem law_end {l : PySem.W.OpenLaw} {k : Nat} {q : Program} {loose : List Str} {XP : (Str → Option Value) → Heap → Prop} {YP : World → Heap → Prop} {d : DefRec} {K : Params → PySem.W.Frag} (most : l.most = some 63) (plain : d.params.defaults = []) (room : Room k callerA)
    (part : ∀ w h, YP w h → (K w.params).In h) (made : ∀ (w : World) (mg : Str → Option Value) (f : Addr) (h : Heap), (K w.params).In h → h.Ns mainGlobals mg → mg d.name = some (.ref f) → Tabs q mg h → LamX.LawAtS l w (K w.params) CX0 k 63 "_law_script" mg f h) : PySem.W.WalkO q loose XP YP l.row.toRowW d [] (fun f vs => PySem.call f vs) := by
  refine Att.attach_callB most plain ?_
  intro w _ s₁ mg _ f _ _ _ _ a vs ns ground said _ _ _ name script nums len size still
  have X := part w _ said
  have tabs : Tabs q mg s₁.heap := fun dr mem => by
    obtain ⟨f', o', fd', c', P', t1, t2, t3, t4, t5, t6⟩ := ground.T.tab dr mem
    exact ⟨f', o', fd', c', P', t1, t2, t3, t4, PySem.W.CodeHd.of t5 t6, t6.2⟩
  obtain ⟨fd, cs, sp, e1, e2, e3, e4, e5, e6⟩ := made w mg f _ X ground.T.g name tabs
  exact LamX.law_callTs X ground.T.g ground.T.b ground.T.builtins ground.T.nolimit still e1 e2 e3 ground.T.bmain script nums (Nat.le_trans len (by decide)) room e6 e4 (fun H z1 z2 => e5 H a ns len size z1 z2) fun _ _ _ z => z

theorem all_mk {l : PySem.W.OpenLaw} {q : Program} {w : World} {K : PySem.W.Frag} {h : Heap} {mg : Str → Option Value} {fa f0 f1 f2 f3 f4 f5 f6 f7 f8 f9 f10 f11 f12 f13 f14 f15 f16 f17 f18 f19 f20 f21 f22 f23 f24 f25 f26 f27 f28 f29 f30 f31 f32 f33 f34 f35 f36 : Addr} {c3 P3 c4 P4 c5 P5 c12 P12 c13 P13 c15 P15 : Addr} (X : K.In h) (G : h.Ns mainGlobals mg) (hfa : mg "law" = some (.ref fa)) (TT : Tabs q mg h)
    {od0 an0 od1 an1 od2 an2 od3 an3 od4 an4 od5 an5 od6 an6 od7 an7 od8 an8 od9 an9 od10 an10 od11 an11 od12 an12 od13 an13 od14 an14 od15 an15 od16 an16 od17 an17 od18 an18 od19 an19 od20 an20 od21 an21 od22 an22 od23 an23 od24 an24 od25 an25 od26 an26 od27 an27 od28 an28 od29 an29 od30 an30 od31 an31 od32 an32 od33 an33 od34 an34 od35 an35 od36 an36 : Option Addr} {sl0 sl1 sl2 sl3 sl4 sl5 sl6 sl7 sl8 sl9 sl10 sl11 sl12 sl13 sl14 sl15 sl16 sl17 sl18 sl19 sl20 sl21 sl22 sl23 sl24 sl25 sl26 sl27 sl28 sl29 sl30 sl31 sl32 sl33 sl34 sl35 sl36 : Array (Option Value)} {oc0 kV0 dc0 pm0 ct0 cd0 oc1 kV1 dc1 pm1 ct1 cd1 oc2 kV2 dc2 pm2 ct2 cd2 oc3 kV3 dc3 pm3 ct3 oc4 kV4 dc4 pm4 ct4 oc5 kV5 dc5 pm5 ct5 oc6 kV6 dc6 pm6 ct6 cd6 oc7 kV7 dc7 pm7 ct7 cd7 oc8 kV8 dc8 pm8 ct8 cd8 oc9 kV9 dc9 pm9 ct9 cd9 oc10 kV10 dc10 pm10 ct10 cd10 oc11 kV11 dc11 pm11 ct11 cd11 oc12 kV12 dc12 pm12 ct12 oc13 kV13 dc13 pm13 ct13 oc14 kV14 dc14 pm14 ct14 cd14 oc15 kV15 dc15 pm15 ct15 oc16 kV16 dc16 pm16 ct16 cd16 oc17 kV17 dc17 pm17 ct17 cd17 oc18 kV18 dc18 pm18 ct18 cd18 oc19 kV19 dc19 pm19 ct19 cd19 oc20 kV20 dc20 pm20 ct20 cd20 oc21 kV21 dc21 pm21 ct21 cd21 oc22 kV22 dc22 pm22 ct22 cd22 oc23 kV23 dc23 pm23 ct23 cd23 oc24 kV24 dc24 pm24 ct24 cd24 oc25 kV25 dc25 pm25 ct25 cd25 oc26 kV26 dc26 pm26 ct26 cd26 oc27 kV27 dc27 pm27 ct27 cd27 oc28 kV28 dc28 pm28 ct28 cd28 oc29 kV29 dc29 pm29 ct29 cd29 oc30 kV30 dc30 pm30 ct30 cd30 oc31 kV31 dc31 pm31 ct31 cd31 oc32 kV32 dc32 pm32 ct32 cd32 oc33 kV33 dc33 pm33 ct33 cd33 oc34 kV34 dc34 pm34 ct34 cd34 oc35 kV35 dc35 pm35 ct35 cd35 oc36 kV36 dc36 pm36 ct36 cd36 : Value}
    {e3 : Value} {dd3 : Option Addr} {vs3 : Array Value} {sc3 : Array (Option Value)} {e4 : Value} {dd4 : Option Addr} {vs4 : Array Value} {sc4 : Array (Option Value)} {e5 : Value} {dd5 : Option Addr} {vs5 : Array Value} {sc5 : Array (Option Value)} {e12 : Value} {dd12 : Option Addr} {vs12 : Array Value} {sc12 : Array (Option Value)} {e13 : Value} {dd13 : Option Addr} {vs13 : Array Value} {sc13 : Array (Option Value)} {e15 : Value} {dd15 : Option Addr} {vs15 : Array Value} {sc15 : Array (Option Value)}
    (a0 : PySem.W.nsIn K mainGlobals "is_row" = some (some (.ref f0))) (l0 : K.lookup f0 = some ⟨oc0, od0, .func (PySem.W.fnOf "is_row" "is_row" (defArgs sIsRow) (defBody sIsRow) (defScope sIsRow) .none kV0 dc0 pm0 an0 cd0 ct0), sl0⟩) (c0' : PySem.W.codeIn K cd0 "is_row" = true) (k0 : PySem.W.keepIn K (.ref f0) = true)
    (a1 : PySem.W.nsIn K mainGlobals "is_tuple_of" = some (some (.ref f1))) (l1 : K.lookup f1 = some ⟨oc1, od1, .func (PySem.W.fnOf "is_tuple_of" "is_tuple_of" (defArgs sTupOf) (defBody sTupOf) (defScope sTupOf) .none kV1 dc1 pm1 an1 cd1 ct1), sl1⟩) (c1' : PySem.W.codeIn K cd1 "is_tuple_of" = true) (k1 : PySem.W.keepIn K (.ref f1) = true)
    (a2 : PySem.W.nsIn K mainGlobals "is_number" = some (some (.ref f2))) (l2 : K.lookup f2 = some ⟨oc2, od2, .func (PySem.W.fnOf "is_number" "is_number" (defArgs sIsNum) (defBody sIsNum) (defScope sIsNum) .none kV2 dc2 pm2 an2 cd2 ct2), sl2⟩) (c2' : PySem.W.codeIn K cd2 "is_number" = true) (k2 : PySem.W.keepIn K (.ref f2) = true)
    (a3 : PySem.W.nsIn K mainGlobals "are_numbers" = some (some (.ref f3))) (l3 : K.lookup f3 = some ⟨oc3, od3, .func (PySem.W.fnOf "are_numbers" "are_numbers" (defArgs sNums) (defBody sNums) (defScope sNums) .none kV3 dc3 pm3 an3 (.ref c3) ct3), sl3⟩) (c3' : PySem.W.codeIn K (.ref c3) "are_numbers" = true) (k3 : PySem.W.keepIn K (.ref f3) = true)
    (a4 : PySem.W.nsIn K mainGlobals "are_rising" = some (some (.ref f4))) (l4 : K.lookup f4 = some ⟨oc4, od4, .func (PySem.W.fnOf "are_rising" "are_rising" (defArgs sRising) (defBody sRising) (defScope sRising) .none kV4 dc4 pm4 an4 (.ref c4) ct4), sl4⟩) (c4' : PySem.W.codeIn K (.ref c4) "are_rising" = true) (k4 : PySem.W.keepIn K (.ref f4) = true)
    (a5 : PySem.W.nsIn K mainGlobals "are_rising_below" = some (some (.ref f5))) (l5 : K.lookup f5 = some ⟨oc5, od5, .func (PySem.W.fnOf "are_rising_below" "are_rising_below" (defArgs sBelow) (defBody sBelow) (defScope sBelow) .none kV5 dc5 pm5 an5 (.ref c5) ct5), sl5⟩) (c5' : PySem.W.codeIn K (.ref c5) "are_rising_below" = true) (k5 : PySem.W.keepIn K (.ref f5) = true)
    (a6 : PySem.W.nsIn K mainGlobals "set_of" = some (some (.ref f6))) (l6 : K.lookup f6 = some ⟨oc6, od6, .func (PySem.W.fnOf "set_of" "set_of" (defArgs sSetOf) (defBody sSetOf) (defScope sSetOf) .none kV6 dc6 pm6 an6 cd6 ct6), sl6⟩) (c6' : PySem.W.codeIn K cd6 "set_of" = true) (k6 : PySem.W.keepIn K (.ref f6) = true)
    (a7 : PySem.W.nsIn K mainGlobals "pass_at" = some (some (.ref f7))) (l7 : K.lookup f7 = some ⟨oc7, od7, .func (PySem.W.fnOf "pass_at" "pass_at" (defArgs sPassAt) (defBody sPassAt) (defScope sPassAt) .none kV7 dc7 pm7 an7 cd7 ct7), sl7⟩) (c7' : PySem.W.codeIn K cd7 "pass_at" = true) (k7 : PySem.W.keepIn K (.ref f7) = true)
    (a8 : PySem.W.nsIn K mainGlobals "window" = some (some (.ref f8))) (l8 : K.lookup f8 = some ⟨oc8, od8, .func (PySem.W.fnOf "window" "window" (defArgs sWindow) (defBody sWindow) (defScope sWindow) .none kV8 dc8 pm8 an8 cd8 ct8), sl8⟩) (c8' : PySem.W.codeIn K cd8 "window" = true) (k8 : PySem.W.keepIn K (.ref f8) = true)
    (a9 : PySem.W.nsIn K mainGlobals "places_passed" = some (some (.ref f9))) (l9 : K.lookup f9 = some ⟨oc9, od9, .func (PySem.W.fnOf "places_passed" "places_passed" (defArgs sPassed) (defBody sPassed) (defScope sPassed) .none kV9 dc9 pm9 an9 cd9 ct9), sl9⟩) (c9' : PySem.W.codeIn K cd9 "places_passed" = true) (k9 : PySem.W.keepIn K (.ref f9) = true)
    (a10 : PySem.W.nsIn K mainGlobals "windows_tested" = some (some (.ref f10))) (l10 : K.lookup f10 = some ⟨oc10, od10, .func (PySem.W.fnOf "windows_tested" "windows_tested" (defArgs sTested) (defBody sTested) (defScope sTested) .none kV10 dc10 pm10 an10 cd10 ct10), sl10⟩) (c10' : PySem.W.codeIn K cd10 "windows_tested" = true) (k10 : PySem.W.keepIn K (.ref f10) = true)
    (a11 : PySem.W.nsIn K mainGlobals "free_rows" = some (some (.ref f11))) (l11 : K.lookup f11 = some ⟨oc11, od11, .func (PySem.W.fnOf "free_rows" "free_rows" (defArgs sFree) (defBody sFree) (defScope sFree) .none kV11 dc11 pm11 an11 cd11 ct11), sl11⟩) (c11' : PySem.W.codeIn K cd11 "free_rows" = true) (k11 : PySem.W.keepIn K (.ref f11) = true)
    (a12 : PySem.W.nsIn K mainGlobals "fault_rows" = some (some (.ref f12))) (l12 : K.lookup f12 = some ⟨oc12, od12, .func (PySem.W.fnOf "fault_rows" "fault_rows" (defArgs sFaultR) (defBody sFaultR) (defScope sFaultR) .none kV12 dc12 pm12 an12 (.ref c12) ct12), sl12⟩) (c12' : PySem.W.codeIn K (.ref c12) "fault_rows" = true) (k12 : PySem.W.keepIn K (.ref f12) = true)
    (a13 : PySem.W.nsIn K mainGlobals "are_tests_of" = some (some (.ref f13))) (l13 : K.lookup f13 = some ⟨oc13, od13, .func (PySem.W.fnOf "are_tests_of" "are_tests_of" (defArgs sTestsOf) (defBody sTestsOf) (defScope sTestsOf) .none kV13 dc13 pm13 an13 (.ref c13) ct13), sl13⟩) (c13' : PySem.W.codeIn K (.ref c13) "are_tests_of" = true) (k13 : PySem.W.keepIn K (.ref f13) = true)
    (a14 : PySem.W.nsIn K mainGlobals "shows_at" = some (some (.ref f14))) (l14 : K.lookup f14 = some ⟨oc14, od14, .func (PySem.W.fnOf "shows_at" "shows_at" (defArgs sShowsAt) (defBody sShowsAt) (defScope sShowsAt) .none kV14 dc14 pm14 an14 cd14 ct14), sl14⟩) (c14' : PySem.W.codeIn K cd14 "shows_at" = true) (k14 : PySem.W.keepIn K (.ref f14) = true)
    (a15 : PySem.W.nsIn K mainGlobals "shows_none" = some (some (.ref f15))) (l15 : K.lookup f15 = some ⟨oc15, od15, .func (PySem.W.fnOf "shows_none" "shows_none" (defArgs sShowsN) (defBody sShowsN) (defScope sShowsN) .none kV15 dc15 pm15 an15 (.ref c15) ct15), sl15⟩) (c15' : PySem.W.codeIn K (.ref c15) "shows_none" = true) (k15 : PySem.W.keepIn K (.ref f15) = true)
    (a16 : PySem.W.nsIn K mainGlobals "_law_cells" = some (some (.ref f16))) (l16 : K.lookup f16 = some ⟨oc16, od16, .func (PySem.W.fnOf "_law_cells" "_law_cells" (defArgs sCells) (defBody sCells) (defScope sCells) .none kV16 dc16 pm16 an16 cd16 ct16), sl16⟩) (c16' : PySem.W.codeIn K cd16 "_law_cells" = true) (k16 : PySem.W.keepIn K (.ref f16) = true)
    (a17 : PySem.W.nsIn K mainGlobals "_law_box" = some (some (.ref f17))) (l17 : K.lookup f17 = some ⟨oc17, od17, .func (PySem.W.fnOf "_law_box" "_law_box" (defArgs sBox) (defBody sBox) (defScope sBox) .none kV17 dc17 pm17 an17 cd17 ct17), sl17⟩) (c17' : PySem.W.codeIn K cd17 "_law_box" = true) (k17 : PySem.W.keepIn K (.ref f17) = true)
    (a18 : PySem.W.nsIn K mainGlobals "_law_take" = some (some (.ref f18))) (l18 : K.lookup f18 = some ⟨oc18, od18, .func (PySem.W.fnOf "_law_take" "_law_take" (defArgs sTake) (defBody sTake) (defScope sTake) .none kV18 dc18 pm18 an18 cd18 ct18), sl18⟩) (c18' : PySem.W.codeIn K cd18 "_law_take" = true) (k18 : PySem.W.keepIn K (.ref f18) = true)
    (a19 : PySem.W.nsIn K mainGlobals "_law_names" = some (some (.ref f19))) (l19 : K.lookup f19 = some ⟨oc19, od19, .func (PySem.W.fnOf "_law_names" "_law_names" (defArgs sNames) (defBody sNames) (defScope sNames) .none kV19 dc19 pm19 an19 cd19 ct19), sl19⟩) (c19' : PySem.W.codeIn K cd19 "_law_names" = true) (k19 : PySem.W.keepIn K (.ref f19) = true)
    (a20 : PySem.W.nsIn K mainGlobals "_law_marks" = some (some (.ref f20))) (l20 : K.lookup f20 = some ⟨oc20, od20, .func (PySem.W.fnOf "_law_marks" "_law_marks" (defArgs sMarks) (defBody sMarks) (defScope sMarks) .none kV20 dc20 pm20 an20 cd20 ct20), sl20⟩) (c20' : PySem.W.codeIn K cd20 "_law_marks" = true) (k20 : PySem.W.keepIn K (.ref f20) = true)
    (a21 : PySem.W.nsIn K mainGlobals "_law_shuffled" = some (some (.ref f21))) (l21 : K.lookup f21 = some ⟨oc21, od21, .func (PySem.W.fnOf "_law_shuffled" "_law_shuffled" (defArgs sShuf) (defBody sShuf) (defScope sShuf) .none kV21 dc21 pm21 an21 cd21 ct21), sl21⟩) (c21' : PySem.W.codeIn K cd21 "_law_shuffled" = true) (k21 : PySem.W.keepIn K (.ref f21) = true)
    (a22 : PySem.W.nsIn K mainGlobals "_law_pass" = some (some (.ref f22))) (l22 : K.lookup f22 = some ⟨oc22, od22, .func (PySem.W.fnOf "_law_pass" "_law_pass" (defArgs sPass) (defBody sPass) (defScope sPass) .none kV22 dc22 pm22 an22 cd22 ct22), sl22⟩) (c22' : PySem.W.codeIn K cd22 "_law_pass" = true) (k22 : PySem.W.keepIn K (.ref f22) = true)
    (a23 : PySem.W.nsIn K mainGlobals "_law_batches" = some (some (.ref f23))) (l23 : K.lookup f23 = some ⟨oc23, od23, .func (PySem.W.fnOf "_law_batches" "_law_batches" (defArgs sBats) (defBody sBats) (defScope sBats) .none kV23 dc23 pm23 an23 cd23 ct23), sl23⟩) (c23' : PySem.W.codeIn K cd23 "_law_batches" = true) (k23 : PySem.W.keepIn K (.ref f23) = true)
    (a24 : PySem.W.nsIn K mainGlobals "_law_window" = some (some (.ref f24))) (l24 : K.lookup f24 = some ⟨oc24, od24, .func (PySem.W.fnOf "_law_window" "_law_window" (defArgs sLWin) (defBody sLWin) (defScope sLWin) .none kV24 dc24 pm24 an24 cd24 ct24), sl24⟩) (c24' : PySem.W.codeIn K cd24 "_law_window" = true) (k24 : PySem.W.keepIn K (.ref f24) = true)
    (a25 : PySem.W.nsIn K mainGlobals "_law_tests" = some (some (.ref f25))) (l25 : K.lookup f25 = some ⟨oc25, od25, .func (PySem.W.fnOf "_law_tests" "_law_tests" (defArgs sTests) (defBody sTests) (defScope sTests) .none kV25 dc25 pm25 an25 cd25 ct25), sl25⟩) (c25' : PySem.W.codeIn K cd25 "_law_tests" = true) (k25 : PySem.W.keepIn K (.ref f25) = true)
    (a26 : PySem.W.nsIn K mainGlobals "_law_places" = some (some (.ref f26))) (l26 : K.lookup f26 = some ⟨oc26, od26, .func (PySem.W.fnOf "_law_places" "_law_places" (defArgs sLPl) (defBody sLPl) (defScope sLPl) .none kV26 dc26 pm26 an26 cd26 ct26), sl26⟩) (c26' : PySem.W.codeIn K cd26 "_law_places" = true) (k26 : PySem.W.keepIn K (.ref f26) = true)
    (a27 : PySem.W.nsIn K mainGlobals "_law_gaps" = some (some (.ref f27))) (l27 : K.lookup f27 = some ⟨oc27, od27, .func (PySem.W.fnOf "_law_gaps" "_law_gaps" (defArgs sLGaps) (defBody sLGaps) (defScope sLGaps) .none kV27 dc27 pm27 an27 cd27 ct27), sl27⟩) (c27' : PySem.W.codeIn K cd27 "_law_gaps" = true) (k27 : PySem.W.keepIn K (.ref f27) = true)
    (a28 : PySem.W.nsIn K mainGlobals "_law_fits" = some (some (.ref f28))) (l28 : K.lookup f28 = some ⟨oc28, od28, .func (PySem.W.fnOf "_law_fits" "_law_fits" (defArgs sLFits) (defBody sLFits) (defScope sLFits) .none kV28 dc28 pm28 an28 cd28 ct28), sl28⟩) (c28' : PySem.W.codeIn K cd28 "_law_fits" = true) (k28 : PySem.W.keepIn K (.ref f28) = true)
    (a29 : PySem.W.nsIn K mainGlobals "_law_text_is" = some (some (.ref f29))) (l29 : K.lookup f29 = some ⟨oc29, od29, .func (PySem.W.fnOf "_law_text_is" "_law_text_is" (defArgs sLTxt) (defBody sLTxt) (defScope sLTxt) .none kV29 dc29 pm29 an29 cd29 ct29), sl29⟩) (c29' : PySem.W.codeIn K cd29 "_law_text_is" = true) (k29 : PySem.W.keepIn K (.ref f29) = true)
    (a30 : PySem.W.nsIn K mainGlobals "_law_numbers" = some (some (.ref f30))) (l30 : K.lookup f30 = some ⟨oc30, od30, .func (PySem.W.fnOf "_law_numbers" "_law_numbers" (defArgs sLNums) (defBody sLNums) (defScope sLNums) .none kV30 dc30 pm30 an30 cd30 ct30), sl30⟩) (c30' : PySem.W.codeIn K cd30 "_law_numbers" = true) (k30 : PySem.W.keepIn K (.ref f30) = true)
    (a31 : PySem.W.nsIn K mainGlobals "_law_is_shown" = some (some (.ref f31))) (l31 : K.lookup f31 = some ⟨oc31, od31, .func (PySem.W.fnOf "_law_is_shown" "_law_is_shown" (defArgs sLShown) (defBody sLShown) (defScope sLShown) .none kV31 dc31 pm31 an31 cd31 ct31), sl31⟩) (c31' : PySem.W.codeIn K cd31 "_law_is_shown" = true) (k31 : PySem.W.keepIn K (.ref f31) = true)
    (a32 : PySem.W.nsIn K mainGlobals "_law_clash" = some (some (.ref f32))) (l32 : K.lookup f32 = some ⟨oc32, od32, .func (PySem.W.fnOf "_law_clash" "_law_clash" (defArgs sClash) (defBody sClash) (defScope sClash) .none kV32 dc32 pm32 an32 cd32 ct32), sl32⟩) (c32' : PySem.W.codeIn K cd32 "_law_clash" = true) (k32 : PySem.W.keepIn K (.ref f32) = true)
    (a33 : PySem.W.nsIn K mainGlobals "_law_own" = some (some (.ref f33))) (l33 : K.lookup f33 = some ⟨oc33, od33, .func (PySem.W.fnOf "_law_own" "_law_own" (defArgs sOwn) (defBody sOwn) (defScope sOwn) .none kV33 dc33 pm33 an33 cd33 ct33), sl33⟩) (c33' : PySem.W.codeIn K cd33 "_law_own" = true) (k33 : PySem.W.keepIn K (.ref f33) = true)
    (a34 : PySem.W.nsIn K mainGlobals "_law_nested" = some (some (.ref f34))) (l34 : K.lookup f34 = some ⟨oc34, od34, .func (PySem.W.fnOf "_law_nested" "_law_nested" (defArgs sNested) (defBody sNested) (defScope sNested) .none kV34 dc34 pm34 an34 cd34 ct34), sl34⟩) (c34' : PySem.W.codeIn K cd34 "_law_nested" = true) (k34 : PySem.W.keepIn K (.ref f34) = true)
    (a35 : PySem.W.nsIn K mainGlobals "_law_put" = some (some (.ref f35))) (l35 : K.lookup f35 = some ⟨oc35, od35, .func (PySem.W.fnOf "_law_put" "_law_put" (defArgs sPut) (defBody sPut) (defScope sPut) .none kV35 dc35 pm35 an35 cd35 ct35), sl35⟩) (c35' : PySem.W.codeIn K cd35 "_law_put" = true) (k35 : PySem.W.keepIn K (.ref f35) = true)
    (a36 : PySem.W.nsIn K mainGlobals "law" = some (some (.ref f36))) (l36 : K.lookup f36 = some ⟨oc36, od36, .func (PySem.W.fnOf "law" "law" (defArgs sLaw) (defBody sLaw) (defScope sLaw) .none kV36 dc36 pm36 an36 cd36 ct36), sl36⟩) (c36' : PySem.W.codeIn K cd36 "law" = true) (k36 : PySem.W.keepIn K (.ref f36) = true)
    (lc3 : K.lookup c3 = some ⟨e3, dd3, .fields vs3, sc3⟩) (v3 : vs3[11]? = some (.ref P3)) (nP3 : K.lookup P3 = none) (r3 : ((recsOf q).any fun e => e.name == ("are_numbers" : Str)) = true)
    (lc4 : K.lookup c4 = some ⟨e4, dd4, .fields vs4, sc4⟩) (v4 : vs4[11]? = some (.ref P4)) (nP4 : K.lookup P4 = none) (r4 : ((recsOf q).any fun e => e.name == ("are_rising" : Str)) = true)
    (lc5 : K.lookup c5 = some ⟨e5, dd5, .fields vs5, sc5⟩) (v5 : vs5[11]? = some (.ref P5)) (nP5 : K.lookup P5 = none) (r5 : ((recsOf q).any fun e => e.name == ("are_rising_below" : Str)) = true)
    (lc12 : K.lookup c12 = some ⟨e12, dd12, .fields vs12, sc12⟩) (v12 : vs12[11]? = some (.ref P12)) (nP12 : K.lookup P12 = none) (r12 : ((recsOf q).any fun e => e.name == ("fault_rows" : Str)) = true)
    (lc13 : K.lookup c13 = some ⟨e13, dd13, .fields vs13, sc13⟩) (v13 : vs13[11]? = some (.ref P13)) (nP13 : K.lookup P13 = none) (r13 : ((recsOf q).any fun e => e.name == ("are_tests_of" : Str)) = true)
    (lc15 : K.lookup c15 = some ⟨e15, dd15, .fields vs15, sc15⟩) (v15 : vs15[11]? = some (.ref P15)) (nP15 : K.lookup P15 = none) (r15 : ((recsOf q).any fun e => e.name == ("shows_none" : Str)) = true)
    {tk_LINE : Tok} (zc_LINE : PySem.W.nsIn K mainGlobals "LINE" = some (some (.str "line" tk_LINE))) {tk_BAD : Tok} (zc_BAD : PySem.W.nsIn K mainGlobals "BAD" = some (some (.str "bad" tk_BAD))) {tk_GOOD : Tok} (zc_GOOD : PySem.W.nsIn K mainGlobals "GOOD" = some (some (.str "good" tk_GOOD))) {tk_MOST_BAD : Tok} (zc_MOST_BAD : PySem.W.nsIn K mainGlobals "MOST_BAD" = some (some (.int 2 tk_MOST_BAD)))
    (z_abs : PySem.W.nsIn K mainGlobals "abs" = some none) (z_all : PySem.W.nsIn K mainGlobals "all" = some none) (z_bool : PySem.W.nsIn K mainGlobals "bool" = some none) (z_dict : PySem.W.nsIn K mainGlobals "dict" = some none) (z_divmod : PySem.W.nsIn K mainGlobals "divmod" = some none) (z_enumerate : PySem.W.nsIn K mainGlobals "enumerate" = some none) (z_int : PySem.W.nsIn K mainGlobals "int" = some none) (z_isinstance : PySem.W.nsIn K mainGlobals "isinstance" = some none) (z_len : PySem.W.nsIn K mainGlobals "len" = some none) (z_list : PySem.W.nsIn K mainGlobals "list" = some none) (z_max : PySem.W.nsIn K mainGlobals "max" = some none) (z_min : PySem.W.nsIn K mainGlobals "min" = some none) (z_range : PySem.W.nsIn K mainGlobals "range" = some none) (z_set : PySem.W.nsIn K mainGlobals "set" = some none) (z_sorted : PySem.W.nsIn K mainGlobals "sorted" = some none) (z_str : PySem.W.nsIn K mainGlobals "str" = some none) (z_tuple : PySem.W.nsIn K mainGlobals "tuple" = some none) (z_zip : PySem.W.nsIn K mainGlobals "zip" = some none) :
    LamX.LawAtS l w K CX0 14 63 "_law_script" mg fa h := by
  cases hfa.symm.trans (PySem.W.mg_of X G a36)
  have F0 := fun_mk (st := sIsRow) l0 c0' k0
  have b0 := F0.binds (ps := ["thing"]) fun _ _ _ _ _ _ us hl => match us, hl with | [_], _ => rfl
  have F1 := fun_mk (st := sTupOf) l1 c1' k1
  have b1 := F1.binds (ps := ["thing", "many"]) fun _ _ _ _ _ _ us hl => match us, hl with | [_, _], _ => rfl
  have F2 := fun_mk (st := sIsNum) l2 c2' k2
  have b2 := F2.binds (ps := ["thing"]) fun _ _ _ _ _ _ us hl => match us, hl with | [_], _ => rfl
  have F3 := fun_mk (st := sNums) l3 c3' k3
  have b3 := F3.binds (ps := ["thing"]) fun _ _ _ _ _ _ us hl => match us, hl with | [_], _ => rfl
  have F4 := fun_mk (st := sRising) l4 c4' k4
  have b4 := F4.binds (ps := ["thing"]) fun _ _ _ _ _ _ us hl => match us, hl with | [_], _ => rfl
  have F5 := fun_mk (st := sBelow) l5 c5' k5
  have b5 := F5.binds (ps := ["thing", "many"]) fun _ _ _ _ _ _ us hl => match us, hl with | [_, _], _ => rfl
  have F6 := fun_mk (st := sSetOf) l6 c6' k6
  have b6 := F6.binds (ps := ["pairs"]) fun _ _ _ _ _ _ us hl => match us, hl with | [_], _ => rfl
  have F7 := fun_mk (st := sPassAt) l7 c7' k7
  have b7 := F7.binds (ps := ["batch", "place"]) fun _ _ _ _ _ _ us hl => match us, hl with | [_, _], _ => rfl
  have F8 := fun_mk (st := sWindow) l8 c8' k8
  have b8 := F8.binds (ps := ["batch", "place", "tin"]) fun _ _ _ _ _ _ us hl => match us, hl with | [_, _, _], _ => rfl
  have F9 := fun_mk (st := sPassed) l9 c9' k9
  have b9 := F9.binds (ps := ["batches"]) fun _ _ _ _ _ _ us hl => match us, hl with | [_], _ => rfl
  have F10 := fun_mk (st := sTested) l10 c10' k10
  have b10 := F10.binds (ps := ["batches", "tests", "place"]) fun _ _ _ _ _ _ us hl => match us, hl with | [_, _, _], _ => rfl
  have F11 := fun_mk (st := sFree) l11 c11' k11
  have b11 := F11.binds (ps := ["windows"]) fun _ _ _ _ _ _ us hl => match us, hl with | [_], _ => rfl
  have F12 := fun_mk (st := sFaultR) l12 c12' k12
  have b12 := F12.binds (ps := ["bad", "good"]) fun _ _ _ _ _ _ us hl => match us, hl with | [_, _], _ => rfl
  have F13 := fun_mk (st := sTestsOf) l13 c13' k13
  have b13 := F13.binds (ps := ["numbers", "tests", "word"]) fun _ _ _ _ _ _ us hl => match us, hl with | [_, _, _], _ => rfl
  have F14 := fun_mk (st := sShowsAt) l14 c14' k14
  have b14 := F14.binds (ps := ["batches", "tests", "place", "triple"]) fun _ _ _ _ _ _ us hl => match us, hl with | [_, _, _, _], _ => rfl
  have F15 := fun_mk (st := sShowsN) l15 c15' k15
  have b15 := F15.binds (ps := ["batches", "tests", "told"]) fun _ _ _ _ _ _ us hl => match us, hl with | [_, _, _], _ => rfl
  have F16 := fun_mk (st := sCells) l16 c16' k16
  have b16 := F16.binds (ps := ["_law_script", "_law_many"]) fun _ _ _ _ _ _ us hl => match us, hl with | [_, _], _ => rfl
  have F17 := fun_mk (st := sBox) l17 c17' k17
  have b17 := F17.binds (ps := ["_law_script", "_law_k"]) fun _ _ _ _ _ _ us hl => match us, hl with | [_, _], _ => rfl
  have F18 := fun_mk (st := sTake) l18 c18' k18
  have b18 := F18.binds (ps := ["_law_box_here", "_law_many"]) fun _ _ _ _ _ _ us hl => match us, hl with | [_, _], _ => rfl
  have F19 := fun_mk (st := sNames) l19 c19' k19
  have b19 := F19.binds (ps := ["_law_box_here", "_law_many"]) fun _ _ _ _ _ _ us hl => match us, hl with | [_, _], _ => rfl
  have F20 := fun_mk (st := sMarks) l20 c20' k20
  have b20 := F20.binds (ps := ["_law_box_here", "_law_many"]) fun _ _ _ _ _ _ us hl => match us, hl with | [_, _], _ => rfl
  have F21 := fun_mk (st := sShuf) l21 c21' k21
  have b21 := F21.binds (ps := ["_law_box_here", "_law_things"]) fun _ _ _ _ _ _ us hl => match us, hl with | [_, _], _ => rfl
  have F22 := fun_mk (st := sPass) l22 c22' k22
  have b22 := F22.binds (ps := ["_law_box_here", "_law_place", "_law_tins"]) fun _ _ _ _ _ _ us hl => match us, hl with | [_, _, _], _ => rfl
  have F23 := fun_mk (st := sBats) l23 c23' k23
  have b23 := F23.binds (ps := ["_law_box_here", "_law_places_here", "_law_many"]) fun _ _ _ _ _ _ us hl => match us, hl with | [_, _, _], _ => rfl
  have F24 := fun_mk (st := sLWin) l24 c24' k24
  have b24 := F24.binds (ps := ["_law_batch", "_law_place", "_law_tin"]) fun _ _ _ _ _ _ us hl => match us, hl with | [_, _, _], _ => rfl
  have F25 := fun_mk (st := sTests) l25 c25' k25
  have b25 := F25.binds (ps := ["_law_box_here", "_law_batches_here", "_law_places_here", "_law_most"]) fun _ _ _ _ _ _ us hl => match us, hl with | [_, _, _, _], _ => rfl
  have F26 := fun_mk (st := sLPl) l26 c26' k26
  have b26 := F26.binds (ps := ["_law_batches_here"]) fun _ _ _ _ _ _ us hl => match us, hl with | [_], _ => rfl
  have F27 := fun_mk (st := sLGaps) l27 c27' k27
  have b27 := F27.binds (ps := ["_law_windows"]) fun _ _ _ _ _ _ us hl => match us, hl with | [_], _ => rfl
  have F28 := fun_mk (st := sLFits) l28 c28' k28
  have b28 := F28.binds (ps := ["_law_windows_bad", "_law_windows_good"]) fun _ _ _ _ _ _ us hl => match us, hl with | [_, _], _ => rfl
  have F29 := fun_mk (st := sLTxt) l29 c29' k29
  have b29 := F29.binds (ps := ["_law_thing", "_law_text"]) fun _ _ _ _ _ _ us hl => match us, hl with | [_, _], _ => rfl
  have F30 := fun_mk (st := sLNums) l30 c30' k30
  have b30 := F30.binds (ps := ["_law_tests_here", "_law_thing", "_law_word"]) fun _ _ _ _ _ _ us hl => match us, hl with | [_, _, _], _ => rfl
  have F31 := fun_mk (st := sLShown) l31 c31' k31
  have b31 := F31.binds (ps := ["_law_batches_here", "_law_tests_here", "_law_told"]) fun _ _ _ _ _ _ us hl => match us, hl with | [_, _, _], _ => rfl
  have F32 := fun_mk (st := sClash) l32 c32' k32
  have b32 := F32.binds (ps := ["_law_box_here", "_law_most"]) fun _ _ _ _ _ _ us hl => match us, hl with | [_, _], _ => rfl
  have F33 := fun_mk (st := sOwn) l33 c33' k33
  have b33 := F33.binds (ps := ["_law_batches_here", "_law_tests_here"]) fun _ _ _ _ _ _ us hl => match us, hl with | [_, _], _ => rfl
  have F34 := fun_mk (st := sNested) l34 c34' k34
  have b34 := F34.binds (ps := ["_law_box_here", "_law_deep"]) fun _ _ _ _ _ _ us hl => match us, hl with | [_, _], _ => rfl
  have F35 := fun_mk (st := sPut) l35 c35' k35
  have b35 := F35.binds (ps := ["_law_box_here", "_law_thing", "_law_deep"]) fun _ _ _ _ _ _ us hl => match us, hl with | [_, _, _], _ => rfl
  have F36 := fun_mk (st := sLaw) l36 c36' k36
  have m_LINE : ∃ u, mg "LINE" = some u ∧ RelV (.str "line") u := ⟨_, PySem.W.mg_of X G zc_LINE, ⟨_, rfl⟩⟩
  have m_BAD : ∃ u, mg "BAD" = some u ∧ RelV (.str "bad") u := ⟨_, PySem.W.mg_of X G zc_BAD, ⟨_, rfl⟩⟩
  have m_GOOD : ∃ u, mg "GOOD" = some u ∧ RelV (.str "good") u := ⟨_, PySem.W.mg_of X G zc_GOOD, ⟨_, rfl⟩⟩
  have m_MOST_BAD : ∃ u, mg "MOST_BAD" = some u ∧ RelV (.int 2) u := ⟨_, PySem.W.mg_of X G zc_MOST_BAD, ⟨_, rfl⟩⟩
  have m_abs := PySem.W.mg_none_of X G z_abs
  have m_all := PySem.W.mg_none_of X G z_all
  have m_bool := PySem.W.mg_none_of X G z_bool
  have m_dict := PySem.W.mg_none_of X G z_dict
  have m_divmod := PySem.W.mg_none_of X G z_divmod
  have m_enumerate := PySem.W.mg_none_of X G z_enumerate
  have m_int := PySem.W.mg_none_of X G z_int
  have m_isinstance := PySem.W.mg_none_of X G z_isinstance
  have m_len := PySem.W.mg_none_of X G z_len
  have m_list := PySem.W.mg_none_of X G z_list
  have m_max := PySem.W.mg_none_of X G z_max
  have m_min := PySem.W.mg_none_of X G z_min
  have m_range := PySem.W.mg_none_of X G z_range
  have m_set := PySem.W.mg_none_of X G z_set
  have m_sorted := PySem.W.mg_none_of X G z_sorted
  have m_str := PySem.W.mg_none_of X G z_str
  have m_tuple := PySem.W.mg_none_of X G z_tuple
  have m_zip := PySem.W.mg_none_of X G z_zip
  have tb3 := tab_in TT X r3 (PySem.W.mg_of X G a3) l3 rfl lc3 v3
  have tb4 := tab_in TT X r4 (PySem.W.mg_of X G a4) l4 rfl lc4 v4
  have tb5 := tab_in TT X r5 (PySem.W.mg_of X G a5) l5 rfl lc5 v5
  have tb12 := tab_in TT X r12 (PySem.W.mg_of X G a12) l12 rfl lc12 v12
  have tb13 := tab_in TT X r13 (PySem.W.mg_of X G a13) l13 rfl lc13 v13
  have tb15 := tab_in TT X r15 (PySem.W.mg_of X G a15) l15 rfl lc15 v15
  refine ⟨PySem.W.fnOf "law" "law" (defArgs sLaw) (defBody sLaw) (defScope sLaw) .none kV36 dc36 pm36 an36 cd36 ct36, [(c3, P3), (c4, P4), (c5, P5), (c12, P12), (c13, P13), (c15, P15)], spLaw K ⟨[P12, P3, P4, P5, P13, P15], []⟩ [P12, P3, P4, P5, P13, P15] P12 P3 P4 P5 P13 P15, List.forall_mem_cons.mpr ⟨tb3.2, List.forall_mem_cons.mpr ⟨tb4.2, List.forall_mem_cons.mpr ⟨tb5.2, List.forall_mem_cons.mpr ⟨tb12.2, List.forall_mem_cons.mpr ⟨tb13.2, List.forall_mem_cons.mpr ⟨tb15.2, fun _ z => nomatch z⟩⟩⟩⟩⟩⟩, List.forall_mem_cons.mpr ⟨nP3, List.forall_mem_cons.mpr ⟨nP4, List.forall_mem_cons.mpr ⟨nP5, List.forall_mem_cons.mpr ⟨nP12, List.forall_mem_cons.mpr ⟨nP13, List.forall_mem_cons.mpr ⟨nP15, fun _ z => nomatch z⟩⟩⟩⟩⟩⟩, List.forall_mem_cons.mpr ⟨tb3.1, List.forall_mem_cons.mpr ⟨tb4.1, List.forall_mem_cons.mpr ⟨tb5.1, List.forall_mem_cons.mpr ⟨tb12.1, List.forall_mem_cons.mpr ⟨tb13.1, List.forall_mem_cons.mpr ⟨tb15.1, fun _ z => nomatch z⟩⟩⟩⟩⟩⟩, fun s v => .of_eq rfl, fun H a ns hl _ hH hS => ?_, fun base _ _ TB => ?_⟩
  · have hT3 : GxR.TabG H P3 := ⟨#[], hH (c3, P3) (List.mem_cons_self ..), trivial⟩; have hT4 : GxR.TabG H P4 := ⟨#[], hH (c4, P4) (List.mem_cons_of_mem _ (List.mem_cons_self ..)), trivial⟩; have hT5 : GxR.TabG H P5 := ⟨#[], hH (c5, P5) (List.mem_cons_of_mem _ (List.mem_cons_of_mem _ (List.mem_cons_self ..))), trivial⟩; have hT12 : GxR.TabG H P12 := ⟨#[], hH (c12, P12) (List.mem_cons_of_mem _ (List.mem_cons_of_mem _ (List.mem_cons_of_mem _ (List.mem_cons_self ..)))), trivial⟩; have hT13 : GxR.TabG H P13 := ⟨#[], hH (c13, P13) (List.mem_cons_of_mem _ (List.mem_cons_of_mem _ (List.mem_cons_of_mem _ (List.mem_cons_of_mem _ (List.mem_cons_self ..))))), trivial⟩; have hT15 : GxR.TabG H P15 := ⟨#[], hH (c15, P15) (List.mem_cons_of_mem _ (List.mem_cons_of_mem _ (List.mem_cons_of_mem _ (List.mem_cons_of_mem _ (List.mem_cons_of_mem _ (List.mem_cons_self ..)))))), trivial⟩; exact ⟨a, ns, rfl, hS, hl, ⟨List.forall_mem_cons.mpr ⟨⟨_, hH (c12, P12) (by simp)⟩, List.forall_mem_cons.mpr ⟨⟨_, hH (c3, P3) (by simp)⟩, List.forall_mem_cons.mpr ⟨⟨_, hH (c4, P4) (by simp)⟩, List.forall_mem_cons.mpr ⟨⟨_, hH (c5, P5) (by simp)⟩, List.forall_mem_cons.mpr ⟨⟨_, hH (c13, P13) (by simp)⟩, List.forall_mem_cons.mpr ⟨⟨_, hH (c15, P15) (by simp)⟩, (fun _ z => nomatch z)⟩⟩⟩⟩⟩⟩, List.forall_mem_cons.mpr ⟨⟨GX.TabQ.nil (hH (c12, P12) (by simp)), by simp⟩, List.forall_mem_cons.mpr ⟨⟨GX.TabQ.nil (hH (c3, P3) (by simp)), by simp⟩, List.forall_mem_cons.mpr ⟨⟨GX.TabQ.nil (hH (c4, P4) (by simp)), by simp⟩, List.forall_mem_cons.mpr ⟨⟨GX.TabQ.nil (hH (c5, P5) (by simp)), by simp⟩, List.forall_mem_cons.mpr ⟨⟨GX.TabQ.nil (hH (c13, P13) (by simp)), by simp⟩, List.forall_mem_cons.mpr ⟨⟨GX.TabQ.nil (hH (c15, P15) (by simp)), by simp⟩, (fun _ z => nomatch z)⟩⟩⟩⟩⟩⟩, (fun _ z => nomatch z)⟩, ⟨GX.Mq.mem.mpr (by simp), GX.Mq.mem.mpr (by simp), GX.Mq.mem.mpr (by simp), GX.Mq.mem.mpr (by simp), GX.Mq.mem.mpr (by simp)⟩, GX.Mq.mem.mpr (by simp), fun _ => rfl⟩
  · have g := fun {x : Str} {f : Addr} (a : PySem.W.nsIn K mainGlobals x = some (some (.ref f))) => PySem.W.mg_of X G a
    have T3 : GxR.TabB base mg c3 P3 := let t := TB (c3, P3) (List.mem_cons_self ..); ⟨t.code, t.bm, t.gP⟩
    have T4 : GxR.TabB base mg c4 P4 := let t := TB (c4, P4) (List.mem_cons_of_mem _ (List.mem_cons_self ..)); ⟨t.code, t.bm, t.gP⟩
    have T5 : GxR.TabB base mg c5 P5 := let t := TB (c5, P5) (List.mem_cons_of_mem _ (List.mem_cons_of_mem _ (List.mem_cons_self ..))); ⟨t.code, t.bm, t.gP⟩
    have T12 : GxR.TabB base mg c12 P12 := let t := TB (c12, P12) (List.mem_cons_of_mem _ (List.mem_cons_of_mem _ (List.mem_cons_of_mem _ (List.mem_cons_self ..)))); ⟨t.code, t.bm, t.gP⟩
    have T13 : GxR.TabB base mg c13 P13 := let t := TB (c13, P13) (List.mem_cons_of_mem _ (List.mem_cons_of_mem _ (List.mem_cons_of_mem _ (List.mem_cons_of_mem _ (List.mem_cons_self ..))))); ⟨t.code, t.bm, t.gP⟩
    have T15 : GxR.TabB base mg c15 P15 := let t := TB (c15, P15) (List.mem_cons_of_mem _ (List.mem_cons_of_mem _ (List.mem_cons_of_mem _ (List.mem_cons_of_mem _ (List.mem_cons_of_mem _ (List.mem_cons_self ..)))))); ⟨t.code, t.bm, t.gP⟩
    have SO : Cal l.prog w K mg base 1 "set_of" ["pairs"] (spSetOf K) := ⟨_, _, ok_setof F6 m_sorted m_max, g a6, k6, b6⟩
    have PA : Cal l.prog w K mg base 1 "pass_at" ["batch", "place"] spPassAt := ⟨_, _, ok_PassAt F7, g a7, k7, b7⟩
    have WI : Cal l.prog w K mg base 2 "window" ["batch", "place", "tin"] (spWin K) := ⟨_, _, ok_Window F8 PA m_LINE, g a8, k8, b8⟩
    have PP : Cal l.prog w K mg base 1 "places_passed" ["batches"] (spPassed K) := ⟨_, _, ok_Passed F9 m_sorted, g a9, k9, b9⟩
    have TE : Cal l.prog w K mg base 3 "windows_tested" ["batches", "tests", "place"] (spTested K) := ⟨_, _, ok_Tested F10 WI, g a10, k10, b10⟩
    have FR : Cal l.prog w K mg base 2 "free_rows" ["windows"] (spFree K) := ⟨_, _, ok_Free F11 SO, g a11, k11, b11⟩
    have FA : Cal l.prog w K mg base 5 "fault_rows" ["bad", "good"] (spFaultR K ⟨[P12, P3, P4, P5, P13, P15], []⟩ [P12, P3, P4, P5, P13, P15] P12) := ⟨_, _, ok_FaultR l12 c12' ⟨T12.code, T12.bm, T12.gP⟩ FR m_min m_max, g a12, k12, b12⟩
    have CE : Cal l.prog w K mg base 1 "_law_cells" ["_law_script", "_law_many"] (spCells K) := ⟨_, _, ok_Cells F16 m_list m_enumerate, g a16, k16, b16⟩
    have BX : Cal l.prog w K mg base 1 "_law_box" ["_law_script", "_law_k"] spBox := ⟨_, _, ok_Box F17 m_len m_abs m_int, g a17, k17, b17⟩
    have TB : Cal l.prog w K mg base 1 "_law_take" ["_law_box_here", "_law_many"] spTakeB := ⟨_, _, ok_Take F18 m_divmod, g a18, k18, b18⟩
    have NA : Cal l.prog w K mg base 2 "_law_names" ["_law_box_here", "_law_many"] spNames3 := ⟨_, _, ok_Names F19 TB m_range m_len, g a19, k19, b19⟩
    have MK : Cal l.prog w K mg base 2 "_law_marks" ["_law_box_here", "_law_many"] spMarks3 := ⟨_, _, ok_Marks F20 TB m_range m_len, g a20, k20, b20⟩
    have SH : Cal l.prog w K mg base 2 "_law_shuffled" ["_law_box_here", "_law_things"] (spShuf K) := ⟨_, _, ok_Shuf F21 TB m_list m_len m_range, g a21, k21, b21⟩
    have PS : Cal l.prog w K mg base 2 "_law_pass" ["_law_box_here", "_law_place", "_law_tins"] spPass3 := ⟨_, _, ok_Pass F22 TB m_range, g a22, k22, b22⟩
    have BA : Cal l.prog w K mg base 3 "_law_batches" ["_law_box_here", "_law_places_here", "_law_many"] spBats3 := ⟨_, _, ok_Bats F23 MK TB SH PS, g a23, k23, b23⟩
    have LW : Cal l.prog w K mg base 1 "_law_window" ["_law_batch", "_law_place", "_law_tin"] spLWin := ⟨_, _, ok_LWin F24, g a24, k24, b24⟩
    have LT : Cal l.prog w K mg base 2 "_law_tests" ["_law_box_here", "_law_batches_here", "_law_places_here", "_law_most"] spTests3 := ⟨_, _, ok_Tests F25 TB LW m_len m_range m_int m_all, g a25, k25, b25⟩
    have IR : Cal l.prog w K mg base 1 "is_row" ["thing"] spIsRow := ⟨_, _, ok_IsRow F0 m_tuple m_list m_isinstance, g a0, k0, b0⟩
    have IT : Cal l.prog w K mg base 1 "is_tuple_of" ["thing", "many"] spTupOf := ⟨_, _, ok_TupOf F1 m_isinstance m_tuple m_len, g a1, k1, b1⟩
    have IN : Cal l.prog w K mg base 1 "is_number" ["thing"] spIsNum := ⟨_, _, ok_IsNum F2 m_isinstance m_int m_bool, g a2, k2, b2⟩
    have NU : Cal l.prog w K mg base 5 "are_numbers" ["thing"] (spNums K ⟨[P12, P3, P4, P5, P13, P15], []⟩ [P12, P3, P4, P5, P13, P15] P3) := ⟨_, _, ok_Nums l3 c3' ⟨T3.code, T3.bm, T3.gP⟩ IR IN m_all, g a3, k3, b3⟩
    have RS : Cal l.prog w K mg base 6 "are_rising" ["thing"] (spRising K ⟨[P12, P3, P4, P5, P13, P15], []⟩ [P12, P3, P4, P5, P13, P15] P3 P4) := ⟨_, _, ok_Rising l4 c4' ⟨T4.code, T4.bm, T4.gP⟩ NU m_all m_zip, g a4, k4, b4⟩
    have BE : Cal l.prog w K mg base 7 "are_rising_below" ["thing", "many"] (spBelow K ⟨[P12, P3, P4, P5, P13, P15], []⟩ [P12, P3, P4, P5, P13, P15] P3 P4 P5) := ⟨_, _, ok_Below l5 c5' ⟨T5.code, T5.bm, T5.gP⟩ RS m_all, g a5, k5, b5⟩
    have TO : Cal l.prog w K mg base 8 "are_tests_of" ["numbers", "tests", "word"] (spTestsOf K ⟨[P12, P3, P4, P5, P13, P15], []⟩ [P12, P3, P4, P5, P13, P15] P3 P4 P5 P13) := ⟨_, _, ok_TestsOf l13 c13' ⟨T13.code, T13.bm, T13.gP⟩ BE m_len m_all, g a13, k13, b13⟩
    have SA : Cal l.prog w K mg base 9 "shows_at" ["batches", "tests", "place", "triple"] (spShowsAt K ⟨[P12, P3, P4, P5, P13, P15], []⟩ [P12, P3, P4, P5, P13, P15] P12 P3 P4 P5 P13) := ⟨_, _, ok_ShowsAt F14 IT TO TE FA m_BAD m_GOOD m_MOST_BAD m_len, g a14, k14, b14⟩
    have SN : Cal l.prog w K mg base 13 "shows_none" ["batches", "tests", "told"] (spShowsN K ⟨[P12, P3, P4, P5, P13, P15], []⟩ [P12, P3, P4, P5, P13, P15] P12 P3 P4 P5 P13 P15) := ⟨_, _, ok_ShowsN l15 c15' ⟨T15.code, T15.bm, T15.gP⟩ PP IR SA m_len m_all m_zip, g a15, k15, b15⟩
    have PL : Cal l.prog w K mg base 1 "_law_places" ["_law_batches_here"] (spLPl K) := ⟨_, _, ok_LPl F26 m_sorted m_set, g a26, k26, b26⟩
    have GA : Cal l.prog w K mg base 1 "_law_gaps" ["_law_windows"] spLGaps := ⟨_, _, ok_LGaps F27 m_sorted m_max, g a27, k27, b27⟩
    have FI : Cal l.prog w K mg base 2 "_law_fits" ["_law_windows_bad", "_law_windows_good"] spLFits := ⟨_, _, ok_LFits F28 GA m_min m_max, g a28, k28, b28⟩
    have TX : Cal l.prog w K mg base 1 "_law_text_is" ["_law_thing", "_law_text"] spLTxt := ⟨_, _, ok_LTxt F29 m_isinstance m_str, g a29, k29, b29⟩
    have LN : Cal l.prog w K mg base 1 "_law_numbers" ["_law_tests_here", "_law_thing", "_law_word"] spLNums := ⟨_, _, ok_LNums F30 m_tuple m_list m_isinstance m_int m_bool m_len m_all m_sorted m_set, g a30, k30, b30⟩
    have LI : Cal l.prog w K mg base 3 "_law_is_shown" ["_law_batches_here", "_law_tests_here", "_law_told"] (spLShown K) := ⟨_, _, ok_LShown F31 PL TX LN LW FI m_dict m_tuple m_list m_isinstance m_len m_zip, g a31, k31, b31⟩
    have CL : Cal l.prog w K mg base 4 "_law_clash" ["_law_box_here", "_law_most"] spClash := ⟨_, _, ok_Clash F32 NA TB BA LT m_range m_len, g a32, k32, b32⟩
    have OW : Cal l.prog w K mg base 2 "_law_own" ["_law_batches_here", "_law_tests_here"] (spOwn K) := ⟨_, _, ok_Own F33 PL LW m_dict m_enumerate m_min m_max m_sorted m_set m_list, g a33, k33, b33⟩
    have NE : Cal l.prog w K mg base 2 "_law_nested" ["_law_box_here", "_law_deep"] spNested := ⟨_, _, ok_Nested F34 TB m_range, g a34, k34, b34⟩
    have Q0 : Cal l.prog w K mg base 3 "_law_put" ["_law_box_here", "_law_thing", "_law_deep"] (spPut K 0) := ⟨_, _, ok_Put0 F35 TB NE m_tuple m_list m_isinstance m_len m_int m_str, g a35, k35, b35⟩
    have Q1 : Cal l.prog w K mg base 4 "_law_put" ["_law_box_here", "_law_thing", "_law_deep"] (spPut K 1) := ⟨_, _, ok_PutS F35 TB NE Q0 m_tuple m_list m_isinstance m_len m_int m_str, g a35, k35, b35⟩
    have Q2 : Cal l.prog w K mg base 5 "_law_put" ["_law_box_here", "_law_thing", "_law_deep"] (spPut K 2) := ⟨_, _, ok_PutS F35 TB NE Q1 m_tuple m_list m_isinstance m_len m_int m_str, g a35, k35, b35⟩
    have Q3 : Cal l.prog w K mg base 6 "_law_put" ["_law_box_here", "_law_thing", "_law_deep"] (spPut K 3) := ⟨_, _, ok_PutS F35 TB NE Q2 m_tuple m_list m_isinstance m_len m_int m_str, g a35, k35, b35⟩
    have Q4 : Cal l.prog w K mg base 7 "_law_put" ["_law_box_here", "_law_thing", "_law_deep"] (spPut K 4) := ⟨_, _, ok_PutS F35 TB NE Q3 m_tuple m_list m_isinstance m_len m_int m_str, g a35, k35, b35⟩
    have Q5 : Cal l.prog w K mg base 8 "_law_put" ["_law_box_here", "_law_thing", "_law_deep"] (spPut K 5) := ⟨_, _, ok_PutS F35 TB NE Q4 m_tuple m_list m_isinstance m_len m_int m_str, g a35, k35, b35⟩
    exact ok_Law F36 CE BX CL OW NE Q5 TB SN LI m_len m_range m_tuple m_isinstance m_bool
end TK
open PySem PySem.W PyProof.Rows
set_option maxHeartbeats 0 in
theorem PySem.Challenge.cw_tinrecall_k36_none_shown_of_any_form_holds : PySem.Challenge.rw_tinrecall_k36_none_shown_of_any_form.Holds := by
  w_on; o_law; k_head; (case hw => w_witness2)
  k_fill
  refine TK.law_end (l := PySem.Challenge.rw_tinrecall_k36_none_shown_of_any_form) (k := 14) rfl rfl ⟨rfl, by decide, by decide⟩ (fun w h Y => PySem.W.kIn_of Y) ?made
  case made =>
    intro w mg f h KX G hmg TT
    refine' TK.all_mk KX G hmg TT ?a0 ?l0 ?c0 ?k0 ?a1 ?l1 ?c1 ?k1 ?a2 ?l2 ?c2 ?k2 ?a3 ?l3 ?c3 ?k3 ?a4 ?l4 ?c4 ?k4 ?a5 ?l5 ?c5 ?k5 ?a6 ?l6 ?c6 ?k6 ?a7 ?l7 ?c7 ?k7 ?a8 ?l8 ?c8 ?k8 ?a9 ?l9 ?c9 ?k9 ?a10 ?l10 ?c10 ?k10 ?a11 ?l11 ?c11 ?k11 ?a12 ?l12 ?c12 ?k12 ?a13 ?l13 ?c13 ?k13 ?a14 ?l14 ?c14 ?k14 ?a15 ?l15 ?c15 ?k15 ?a16 ?l16 ?c16 ?k16 ?a17 ?l17 ?c17 ?k17 ?a18 ?l18 ?c18 ?k18 ?a19 ?l19 ?c19 ?k19 ?a20 ?l20 ?c20 ?k20 ?a21 ?l21 ?c21 ?k21 ?a22 ?l22 ?c22 ?k22 ?a23 ?l23 ?c23 ?k23 ?a24 ?l24 ?c24 ?k24 ?a25 ?l25 ?c25 ?k25 ?a26 ?l26 ?c26 ?k26 ?a27 ?l27 ?c27 ?k27 ?a28 ?l28 ?c28 ?k28 ?a29 ?l29 ?c29 ?k29 ?a30 ?l30 ?c30 ?k30 ?a31 ?l31 ?c31 ?k31 ?a32 ?l32 ?c32 ?k32 ?a33 ?l33 ?c33 ?k33 ?a34 ?l34 ?c34 ?k34 ?a35 ?l35 ?c35 ?k35 ?a36 ?l36 ?c36 ?k36 ?lc3 ?v3 ?nP3 ?r3 ?lc4 ?v4 ?nP4 ?r4 ?lc5 ?v5 ?nP5 ?r5 ?lc12 ?v12 ?nP12 ?r12 ?lc13 ?v13 ?nP13 ?r13 ?lc15 ?v15 ?nP15 ?r15 ?zc_LINE ?zc_BAD ?zc_GOOD ?zc_MOST_BAD ?z_abs ?z_all ?z_bool ?z_dict ?z_divmod ?z_enumerate ?z_int ?z_isinstance ?z_len ?z_list ?z_max ?z_min ?z_range ?z_set ?z_sorted ?z_str ?z_tuple ?z_zip
    (case a0 => k_is); (case l0 => k_is); (case c0 => k_is); (case k0 => k_is)
    (case a1 => k_is); (case l1 => k_is); (case c1 => k_is); (case k1 => k_is)
    (case a2 => k_is); (case l2 => k_is); (case c2 => k_is); (case k2 => k_is)
    (case a3 => k_is); (case l3 => k_is); (case c3 => k_is); (case k3 => k_is)
    (case a4 => k_is); (case l4 => k_is); (case c4 => k_is); (case k4 => k_is)
    (case a5 => k_is); (case l5 => k_is); (case c5 => k_is); (case k5 => k_is)
    (case a6 => k_is); (case l6 => k_is); (case c6 => k_is); (case k6 => k_is)
    (case a7 => k_is); (case l7 => k_is); (case c7 => k_is); (case k7 => k_is)
    (case a8 => k_is); (case l8 => k_is); (case c8 => k_is); (case k8 => k_is)
    (case a9 => k_is); (case l9 => k_is); (case c9 => k_is); (case k9 => k_is)
    (case a10 => k_is); (case l10 => k_is); (case c10 => k_is); (case k10 => k_is)
    (case a11 => k_is); (case l11 => k_is); (case c11 => k_is); (case k11 => k_is)
    (case a12 => k_is); (case l12 => k_is); (case c12 => k_is); (case k12 => k_is)
    (case a13 => k_is); (case l13 => k_is); (case c13 => k_is); (case k13 => k_is)
    (case a14 => k_is); (case l14 => k_is); (case c14 => k_is); (case k14 => k_is)
    (case a15 => k_is); (case l15 => k_is); (case c15 => k_is); (case k15 => k_is)
    (case a16 => k_is); (case l16 => k_is); (case c16 => k_is); (case k16 => k_is)
    (case a17 => k_is); (case l17 => k_is); (case c17 => k_is); (case k17 => k_is)
    (case a18 => k_is); (case l18 => k_is); (case c18 => k_is); (case k18 => k_is)
    (case a19 => k_is); (case l19 => k_is); (case c19 => k_is); (case k19 => k_is)
    (case a20 => k_is); (case l20 => k_is); (case c20 => k_is); (case k20 => k_is)
    (case a21 => k_is); (case l21 => k_is); (case c21 => k_is); (case k21 => k_is)
    (case a22 => k_is); (case l22 => k_is); (case c22 => k_is); (case k22 => k_is)
    (case a23 => k_is); (case l23 => k_is); (case c23 => k_is); (case k23 => k_is)
    (case a24 => k_is); (case l24 => k_is); (case c24 => k_is); (case k24 => k_is)
    (case a25 => k_is); (case l25 => k_is); (case c25 => k_is); (case k25 => k_is)
    (case a26 => k_is); (case l26 => k_is); (case c26 => k_is); (case k26 => k_is)
    (case a27 => k_is); (case l27 => k_is); (case c27 => k_is); (case k27 => k_is)
    (case a28 => k_is); (case l28 => k_is); (case c28 => k_is); (case k28 => k_is)
    (case a29 => k_is); (case l29 => k_is); (case c29 => k_is); (case k29 => k_is)
    (case a30 => k_is); (case l30 => k_is); (case c30 => k_is); (case k30 => k_is)
    (case a31 => k_is); (case l31 => k_is); (case c31 => k_is); (case k31 => k_is)
    (case a32 => k_is); (case l32 => k_is); (case c32 => k_is); (case k32 => k_is)
    (case a33 => k_is); (case l33 => k_is); (case c33 => k_is); (case k33 => k_is)
    (case a34 => k_is); (case l34 => k_is); (case c34 => k_is); (case k34 => k_is)
    (case a35 => k_is); (case l35 => k_is); (case c35 => k_is); (case k35 => k_is)
    (case a36 => k_is); (case l36 => k_is); (case c36 => k_is); (case k36 => k_is)
    (case lc3 => k_is); (case v3 => exact rfl); (case nP3 => exact rfl); (case r3 => decide +kernel)
    (case lc4 => k_is); (case v4 => exact rfl); (case nP4 => exact rfl); (case r4 => decide +kernel)
    (case lc5 => k_is); (case v5 => exact rfl); (case nP5 => exact rfl); (case r5 => decide +kernel)
    (case lc12 => k_is); (case v12 => exact rfl); (case nP12 => exact rfl); (case r12 => decide +kernel)
    (case lc13 => k_is); (case v13 => exact rfl); (case nP13 => exact rfl); (case r13 => decide +kernel)
    (case lc15 => k_is); (case v15 => exact rfl); (case nP15 => exact rfl); (case r15 => decide +kernel)
    (case zc_LINE => k_is)
    (case zc_BAD => k_is)
    (case zc_GOOD => k_is)
    (case zc_MOST_BAD => k_is)
    (case z_abs => k_is); (case z_all => k_is); (case z_bool => k_is); (case z_dict => k_is); (case z_divmod => k_is); (case z_enumerate => k_is); (case z_int => k_is); (case z_isinstance => k_is); (case z_len => k_is); (case z_list => k_is); (case z_max => k_is); (case z_min => k_is); (case z_range => k_is); (case z_set => k_is); (case z_sorted => k_is); (case z_str => k_is); (case z_tuple => k_is); (case z_zip => k_is)

